/-
  entrepotlaw6.ValueNumbers: the walk.
-/
import Derived.Test.YtjdogiehcgfmjaaGreatDoorR6Num
import Derived.Test.YtjdogiehcgfmjaaGreatDoorR6Same
import Derived.Test.YtjdogiehcgfmjaaGreatDoorValFew
import Derived.Test.YtjdogiehcgfmjaaGreatDoorValTold
import Derived.Lib.QuietBelow
import Derived.BigQuiet
namespace Go.Proofs.YtjdogiehcgfmjaaGreatDoor
open Go.RowKit Go.Shelf
open Go.Sort (grow)

/-- A member's copy, or nothing, by its bool: the same in all parts as a value. -/
def GetA (w : World) (U : VT) (q : Bool) (E : Ending) (w' : World) : Prop :=
  ∃ (kd : Int) (g : Bool) (x : Nat) (b : Int) (s : ByteArray) (la : Option Addr) (lc : Nat) (ka : Option Addr) (kc : Nat) (ks : List ByteArray) (l : List VT),
    E = .returned (.tuple #[V10 kd g (lb 0 x) (lb 1 x) (lb 2 x) (lb 3 x) b s la l.length lc ka ks.length kc, .bool q]) ∧ (VT.mk ⟨kd, g, x, b, s, la, lc, ka, kc, ks⟩ l).In w' ∧ sameT (.mk ⟨kd, g, x, b, s, la, lc, ka, kc, ks⟩ l) U = true ∧ Below w.heap.size w w'
set_option maxRecDepth 100000 in
set_option maxHeartbeats 8000000 in
theorem numbers_may_nil (kd : Int) (g : Bool) (x : Nat) (b : Int) (s : ByteArray) (la : Option Addr) (lc : Nat) (kc : Nat) (bits : Int) (_hb0 : 0 ≤ bits) (_hb1 : bits ≤ 18446744073709551615) (name : ByteArray) (w : World) (hT : Tb w) (n : Nat) (ka : Option Addr) (_hn4 : n ≤ 400) (z : Int) (hz : (z != 0) = true)
    (k1 : ∀ W, Below w.heap.size w W → Calls Tryz.prog 16 #[V10 kd g (lb 0 x) (lb 1 x) (lb 2 x) (lb 3 x) b s la n lc ka 0 kc] W fun e w' => e = .returned (.bool true) ∧ Below W.heap.size W w')
    (k2 : ∀ W, Below w.heap.size w W → Calls Tryz.prog 18 #[V10 kd g (lb 0 x) (lb 1 x) (lb 2 x) (lb 3 x) b s la n lc ka 0 kc] W fun e w' => e = .returned (.int .i64 z) ∧ Below W.heap.size W w') :
    Calls Tryz.prog 4 #[.int .u64 bits, V10 kd g (lb 0 x) (lb 1 x) (lb 2 x) (lb 3 x) b s la n lc ka 0 kc, .string name] w fun e w' => e = .returned (.bool true) ∧ Below w.heap.size w w' := by
  have HT := Lib.hid hT; have K1 := Lib.hid k1; have K2 := Lib.hid k2
  clear hT k1 k2
  go_enter Tryz.func4, Tryz.ntmps4
  go_wp2_with fail
  ((with_reducible refine (K1.out _ (bal (Below.refl _ _) _)).mono ?_); rintro e w1 ⟨rfl, hb⟩)
  have B1 := Lib.hid (btr (bal (Below.refl w.heap.size w) _) hb); have X1 := Row10.keep hb (Row10.new w (.int .i64 kd) (.bool g) (.int .u64 (lb 0 x)) (.int .u64 (lb 1 x)) (.int .u64 (lb 2 x)) (.int .u64 (lb 3 x)) (.int .u64 b) (.string s) (.slice la n lc) (.slice ka 0 kc))
  clear hb
  obtain ⟨p0, p1, p2, p3, p4, p5, p6, p7, p8, p9⟩ := X1.parts
  go_wp2_with fail
  ((with_reducible refine (K2.out _ B1.out).mono ?_); rintro e w2 ⟨rfl, hb⟩)
  have B2 := Lib.hid (btr B1.out hb); have X2 := Row10.keep hb X1
  clear hb B1 X1 p0 p1 p2 p3 p4 p5 p6 p7 p8 p9
  go_wp2_with fail
  ((with_reducible refine (told6_true _ (tb_on HT.out B2.out)).mono ?_); rintro e w3 ⟨rfl, hb⟩)
  have B3 := Lib.hid (btr B2.out hb)
  clear hb
  go_wp2
  go_ret
  exact ⟨rfl, B3.out⟩
set_option maxRecDepth 100000 in
set_option maxHeartbeats 8000000 in
theorem numbers_main_nil (kd : Int) (g : Bool) (x : Nat) (b : Int) (s : ByteArray) (la : Option Addr) (lc : Nat) (kc : Nat) (bits : Int) (_hb0 : 0 ≤ bits) (_hb1 : bits ≤ 18446744073709551615) (name : ByteArray) (w : World) (hT : Tb w) (n : Nat) (ka : Option Addr) (_hn4 : n ≤ 400)
    (kdu : Int) (gu : Bool) (xu : Nat) (bu : Int) (su : ByteArray) (lau : Option Addr) (lcu : Nat) (kau : Option Addr) (kcu : Nat) (ksu : List ByteArray) (lu : List VT) (q : Bool) (hU : VT.In w (.mk ⟨kdu, gu, xu, bu, su, lau, lcu, kau, kcu, ksu⟩ lu))
    (kn : Int) (gn : Bool) (xn : Nat) (bn : Int) (hN : ∀ W, VT.In W (.mk ⟨kn, gn, xn, bn, ⟨#[]⟩, none, 0, none, 0, []⟩ [])) (hNN : sameT (.mk ⟨kn, gn, xn, bn, ⟨#[]⟩, none, 0, none, 0, []⟩ []) (.mk ⟨kn, gn, xn, bn, ⟨#[]⟩, none, 0, none, 0, []⟩ []) = true)
    (k1 : ∀ W, Below w.heap.size w W → Calls Tryz.prog 16 #[V10 kd g (lb 0 x) (lb 1 x) (lb 2 x) (lb 3 x) b s la n lc ka 0 kc] W fun e w' => e = .returned (.bool true) ∧ Below W.heap.size W w')
    (k2 : ∀ W, Below w.heap.size w W → Calls Tryz.prog 18 #[V10 kd g (lb 0 x) (lb 1 x) (lb 2 x) (lb 3 x) b s la n lc ka 0 kc] W fun e w' => e = .returned (.int .i64 0) ∧ Below W.heap.size W w')
    (k3 : ∀ W, Below w.heap.size w W → Calls Tryz.prog 19 #[V10 kd g (lb 0 x) (lb 1 x) (lb 2 x) (lb 3 x) b s la n lc ka 0 kc, .string name] W (GetA W (.mk ⟨kdu, gu, xu, bu, su, lau, lcu, kau, kcu, ksu⟩ lu) q))
    (k4 : ∀ W, Below w.heap.size w W → Calls Tryz.prog 20 #[V10 kd g (lb 0 x) (lb 1 x) (lb 2 x) (lb 3 x) b s la n lc ka 0 kc, .string name] W fun e w' => e = .returned (.tuple #[V10 kdu gu (lb 0 xu) (lb 1 xu) (lb 2 xu) (lb 3 xu) bu su lau lu.length lcu kau ksu.length kcu, .bool q]) ∧ Below W.heap.size W w')
    (k5 : ∀ W, Below w.heap.size w W → Calls Tryz.prog 21 #[.int .u64 bits] W fun e w' => e = .returned (V10 kn gn (lb 0 xn) (lb 1 xn) (lb 2 xn) (lb 3 xn) bn ⟨#[]⟩ none 0 0 none 0 0) ∧ Below W.heap.size W w')
    (k6 : ∀ W, Below w.heap.size w W → Calls Tryz.prog 22 #[.int .u64 bits] W fun e w' => e = .returned (V10 kn gn (lb 0 xn) (lb 1 xn) (lb 2 xn) (lb 3 xn) bn ⟨#[]⟩ none 0 0 none 0 0) ∧ Below W.heap.size W w')
    (k7 : ∀ W, Below w.heap.size w W → Calls Tryz.prog 23 #[V10 kn gn (lb 0 xn) (lb 1 xn) (lb 2 xn) (lb 3 xn) bn ⟨#[]⟩ none 0 0 none 0 0] W fun e w' => e = .returned (.int .i64 0) ∧ Below W.heap.size W w') :
    Calls Tryz.prog 4 #[.int .u64 bits, V10 kd g (lb 0 x) (lb 1 x) (lb 2 x) (lb 3 x) b s la n lc ka 0 kc, .string name] w fun e w' => e = .returned (.bool true) ∧ Below w.heap.size w w' := by
  have HT := Lib.hid hT; have K1 := Lib.hid k1; have K2 := Lib.hid k2; have K3 := Lib.hid k3; have K4 := Lib.hid k4; have K5 := Lib.hid k5; have K6 := Lib.hid k6; have K7 := Lib.hid k7; have HU := Lib.hid hU; have HN := Lib.hid hN; have HNN := Lib.hid hNN
  clear hT k1 k2 k3 k4 k5 k6 k7 hU hN hNN
  go_enter Tryz.func4, Tryz.ntmps4
  go_wp2_with fail
  ((with_reducible refine (K1.out _ (bal (Below.refl _ _) _)).mono ?_); rintro e w1 ⟨rfl, hb⟩)
  have B1 := Lib.hid (btr (bal (Below.refl w.heap.size w) _) hb); have X1 := Row10.keep hb (Row10.new w (.int .i64 kd) (.bool g) (.int .u64 (lb 0 x)) (.int .u64 (lb 1 x)) (.int .u64 (lb 2 x)) (.int .u64 (lb 3 x)) (.int .u64 b) (.string s) (.slice la n lc) (.slice ka 0 kc))
  clear hb
  obtain ⟨p0, p1, p2, p3, p4, p5, p6, p7, p8, p9⟩ := X1.parts
  go_wp2_with fail
  ((with_reducible refine (K2.out _ B1.out).mono ?_); rintro e w2 ⟨rfl, hb⟩)
  have B2 := Lib.hid (btr B1.out hb); have X2 := Row10.keep hb X1
  clear hb B1 X1 p0 p1 p2 p3 p4 p5 p6 p7 p8 p9
  obtain ⟨p0, p1, p2, p3, p4, p5, p6, p7, p8, p9⟩ := X2.parts
  go_wp2_with fail
  ((with_reducible refine (K3.out _ B2.out).mono ?_); rintro e w3 ⟨kd3, g3, x3, b3, s3, la3, lc3, ka3, kc3, ks3, l3, rfl, hIn, hS, hb⟩)
  have B3 := Lib.hid (btr B2.out hb); have X3 := Row10.keep hb X2
  have HS := Lib.hid hS; have HIN := Lib.hid hIn
  clear hb B2 X2 hIn hS p0 p1 p2 p3 p4 p5 p6 p7 p8 p9
  obtain ⟨p0, p1, p2, p3, p4, p5, p6, p7, p8, p9⟩ := X3.parts
  have a0 := fun o => alloc_cell p0 o
  have a1 := fun o => alloc_cell p1 o
  have a2 := fun o => alloc_cell p2 o
  have a3 := fun o => alloc_cell p3 o
  have a4 := fun o => alloc_cell p4 o
  have a5 := fun o => alloc_cell p5 o
  have a6 := fun o => alloc_cell p6 o
  have a7 := fun o => alloc_cell p7 o
  have a8 := fun o => alloc_cell p8 o
  have a9 := fun o => alloc_cell p9 o
  go_wp2_with fail
  ((with_reducible refine (K4.out _ (bal B3.out _)).mono ?_); rintro e w4 ⟨rfl, hb⟩)
  have B4 := Lib.hid (btr (bal B3.out _) hb)
  have A4 := Row10.keep hb (Row10.new w3 (.int .i64 kd3) (.bool g3) (.int .u64 (lb 0 x3)) (.int .u64 (lb 1 x3)) (.int .u64 (lb 2 x3)) (.int .u64 (lb 3 x3)) (.int .u64 b3) (.string s3) (.slice la3 l3.length lc3) (.slice ka3 ks3.length kc3))
  have HI4 := Lib.hid ((HIN.out.keep (bal (Below.refl _ w3) _)).keep hb)
  clear hb B3 X3 HIN p0 p1 p2 p3 p4 p5 p6 p7 p8 p9 a0 a1 a2 a3 a4 a5 a6 a7 a8 a9
  go_wp2_with fail
  ((with_reducible refine (K5.out _ (bal B4.out _)).mono ?_); rintro e w5 ⟨rfl, hb⟩)
  have B5 := Lib.hid (btr (bal B4.out _) hb)
  have A5 := Row10.keep hb (Row10.alloc A4 _)
  have U5 := Row10.keep hb (Row10.new w4 (.int .i64 kdu) (.bool gu) (.int .u64 (lb 0 xu)) (.int .u64 (lb 1 xu)) (.int .u64 (lb 2 xu)) (.int .u64 (lb 3 xu)) (.int .u64 bu) (.string su) (.slice lau lu.length lcu) (.slice kau ksu.length kcu))
  have HI5 := Lib.hid ((HI4.out.keep (bal (Below.refl _ w4) _)).keep hb)
  clear hb B4 A4 HI4
  have N6 := Row10.new w5 (.int .i64 kn) (.bool gn) (.int .u64 (lb 0 xn)) (.int .u64 (lb 1 xn)) (.int .u64 (lb 2 xn)) (.int .u64 (lb 3 xn)) (.int .u64 bn) (.string ⟨#[]⟩) (.slice none 0 0) (.slice none 0 0)
  have A6 := Row10.alloc A5 (.cells #[.int .i64 kn, .bool gn, .int .u64 (lb 0 xn), .int .u64 (lb 1 xn), .int .u64 (lb 2 xn), .int .u64 (lb 3 xn), .int .u64 bn, .string ⟨#[]⟩, .slice none 0 0, .slice none 0 0] 31)
  have U6 := Row10.alloc U5 (.cells #[.int .i64 kn, .bool gn, .int .u64 (lb 0 xn), .int .u64 (lb 1 xn), .int .u64 (lb 2 xn), .int .u64 (lb 3 xn), .int .u64 bn, .string ⟨#[]⟩, .slice none 0 0, .slice none 0 0] 31)
  have B6 := Lib.hid (bal B5.out (.cells #[.int .i64 kn, .bool gn, .int .u64 (lb 0 xn), .int .u64 (lb 1 xn), .int .u64 (lb 2 xn), .int .u64 (lb 3 xn), .int .u64 bn, .string ⟨#[]⟩, .slice none 0 0, .slice none 0 0] 31))
  have HI6 := Lib.hid (HI5.out.keep (bal (Below.refl _ w5) (.cells #[.int .i64 kn, .bool gn, .int .u64 (lb 0 xn), .int .u64 (lb 1 xn), .int .u64 (lb 2 xn), .int .u64 (lb 3 xn), .int .u64 bn, .string ⟨#[]⟩, .slice none 0 0, .slice none 0 0] 31)))
  go_upto_region 10 with (fail)
  go_name_world w6 hw6
  rw [hw6] at N6 A6 U6 B6 HI6
  clear hw6 A5 U5 B5 HI5
  obtain ⟨n0, n1, n2, n3, n4, n5, n6, n7, n8, n9⟩ := N6.parts
  obtain ⟨a0, a1, a2, a3, a4, a5, a6, a7, a8, a9⟩ := A6.parts
  obtain ⟨u0, u1, u2, u3, u4, u5, u6, u7, u8, u9⟩ := U6.parts
  have rn0 := cell_regrown n0; have ra0 := cell_regrown a0; have ru0 := cell_regrown u0
  have rn1 := cell_regrown n1; have ra1 := cell_regrown a1; have ru1 := cell_regrown u1
  have rn2 := cell_regrown n2; have ra2 := cell_regrown a2; have ru2 := cell_regrown u2
  have rn3 := cell_regrown n3; have ra3 := cell_regrown a3; have ru3 := cell_regrown u3
  have rn4 := cell_regrown n4; have ra4 := cell_regrown a4; have ru4 := cell_regrown u4
  have rn5 := cell_regrown n5; have ra5 := cell_regrown a5; have ru5 := cell_regrown u5
  have rn6 := cell_regrown n6; have ra6 := cell_regrown a6; have ru6 := cell_regrown u6
  have rn7 := cell_regrown n7; have ra7 := cell_regrown a7; have ru7 := cell_regrown u7
  have rn8 := cell_regrown n8; have ra8 := cell_regrown a8; have ru8 := cell_regrown u8
  have rn9 := cell_regrown n9; have ra9 := cell_regrown a9; have ru9 := cell_regrown u9
  clear n0 a0 u0 n1 a1 u1 n2 a2 u2 n3 a3 u3 n4 a4 u4 n5 a5 u5 n6 a6 u6 n7 a7 u7 n8 a8 u8 n9 a9 u9 N6 A6 U6
  have cqT := fun (d : Nat) (os : Array Obj) => Calls.regrown_of (w := w6) (d := d) (os := os) (told6_true _ (tb_on HT.out (btr B6.out (below_regrown w6 d os))))
  have cqS := fun (d : Nat) (os : Array Obj) => Calls.regrown_of (w := w6) (d := d) (os := os) (rsame (.mk ⟨kd3, g3, x3, b3, s3, la3, lc3, ka3, kc3, ks3⟩ l3) (.mk ⟨kdu, gu, xu, bu, su, lau, lcu, kau, kcu, ksu⟩ lu) _ (HI6.out.keep (below_regrown w6 d os)) (HU.out.keep (btr B6.out (below_regrown w6 d os))))
  rw [HS.out] at cqS
  have cqN := fun (d : Nat) (os : Array Obj) => Calls.regrown_of (w := w6) (d := d) (os := os) (K6.out _ (btr B6.out (below_regrown w6 d os)))
  have cqM := fun (d : Nat) (os : Array Obj) => Calls.regrown_of (w := w6) (d := d) (os := os) (rsame (.mk ⟨kn, gn, xn, bn, ⟨#[]⟩, none, 0, none, 0, []⟩ []) (.mk ⟨kn, gn, xn, bn, ⟨#[]⟩, none, 0, none, 0, []⟩ []) _ (HN.out _) (HN.out _))
  rw [HNN.out] at cqM
  have cqV := fun (d : Nat) (os : Array Obj) => Calls.regrown_of (w := w6) (d := d) (os := os) (K7.out _ (btr B6.out (below_regrown w6 d os)))
  simp only [VT.val, VT.cells, VT.o_mk, VT.kids_mk, List.length_nil] at cqS cqM
  refine wp_region_quiet_below (by kernel_rfl) (by kernel_rfl) ?_
  repeat (first | go_big_quiet_step ((first | with_reducible exact cqT _ _ | with_reducible exact cqS _ _ | with_reducible exact cqN _ _ | with_reducible exact cqM _ _ | with_reducible exact cqV _ _)) | quiet_step (first | with_reducible exact cqT _ _ | with_reducible exact cqS _ _ | with_reducible exact cqN _ _ | with_reducible exact cqM _ _ | with_reducible exact cqV _ _))
  refine wpQuiet_nil ?_
  intro _ hw'
  obtain ⟨⟨dq, osq⟩, hw''⟩ := hw'
  subst hw''
  have hb := below_regrown w6 dq osq
  generalize grow (redrawn w6 dq) osq = w7 at *
  have B7 := Lib.hid (btr B6.out hb)
  clear hb
  clear rn0 ra0 ru0 rn1 ra1 ru1 rn2 ra2 ru2 rn3 ra3 ru3 rn4 ra4 ru4 rn5 ra5 ru5 rn6 ra6 ru6 rn7 ra7 ru7 rn8 ra8 ru8 rn9 ra9 ru9 cqT cqS cqN cqM cqV
  go_wp2
  go_ret
  exact ⟨rfl, B7.out⟩
set_option maxRecDepth 100000 in
set_option maxHeartbeats 8000000 in
theorem numbers_may_ne (kd : Int) (g : Bool) (x : Nat) (b : Int) (s : ByteArray) (la : Option Addr) (lc : Nat) (kc : Nat) (bits : Int) (_hb0 : 0 ≤ bits) (_hb1 : bits ≤ 18446744073709551615) (name : ByteArray) (w : World) (hT : Tb w) (n m : Nat) (ka : Option Addr) (_hn4 : n ≤ 400) (hm4 : m ≤ 400) (h0 : 0 < m) (hne : m ≠ n) (z : Int) (hz : (z != 0) = true)
    (k1 : ∀ W, Below w.heap.size w W → Calls Tryz.prog 16 #[V10 kd g (lb 0 x) (lb 1 x) (lb 2 x) (lb 3 x) b s la n lc ka m kc] W fun e w' => e = .returned (.bool true) ∧ Below W.heap.size W w')
    (k2 : ∀ W, Below w.heap.size w W → Calls Tryz.prog 18 #[V10 kd g (lb 0 x) (lb 1 x) (lb 2 x) (lb 3 x) b s la n lc ka m kc] W fun e w' => e = .returned (.int .i64 z) ∧ Below W.heap.size W w') :
    Calls Tryz.prog 4 #[.int .u64 bits, V10 kd g (lb 0 x) (lb 1 x) (lb 2 x) (lb 3 x) b s la n lc ka m kc, .string name] w fun e w' => e = .returned (.bool true) ∧ Below w.heap.size w w' := by
  have HT := Lib.hid hT; have K1 := Lib.hid k1; have K2 := Lib.hid k2
  clear hT k1 k2
  have h0' : (0 : Int) < (m : Int) := by omega
  have hne' : ((m : Int) == (n : Int)) = false := by rw [beq_eq_false_iff_ne]; omega
  go_enter Tryz.func4, Tryz.ntmps4
  go_wp2_with fail
  ((with_reducible refine (K1.out _ (bal (Below.refl _ _) _)).mono ?_); rintro e w1 ⟨rfl, hb⟩)
  have B1 := Lib.hid (btr (bal (Below.refl w.heap.size w) _) hb); have X1 := Row10.keep hb (Row10.new w (.int .i64 kd) (.bool g) (.int .u64 (lb 0 x)) (.int .u64 (lb 1 x)) (.int .u64 (lb 2 x)) (.int .u64 (lb 3 x)) (.int .u64 b) (.string s) (.slice la n lc) (.slice ka m kc))
  clear hb
  obtain ⟨p0, p1, p2, p3, p4, p5, p6, p7, p8, p9⟩ := X1.parts
  go_wp2_with fail
  ((with_reducible refine (K2.out _ B1.out).mono ?_); rintro e w2 ⟨rfl, hb⟩)
  have B2 := Lib.hid (btr B1.out hb); have X2 := Row10.keep hb X1
  clear hb B1 X1 p0 p1 p2 p3 p4 p5 p6 p7 p8 p9
  go_wp2_with fail
  ((with_reducible refine (told6_true _ (tb_on HT.out B2.out)).mono ?_); rintro e w3 ⟨rfl, hb⟩)
  have B3 := Lib.hid (btr B2.out hb)
  clear hb
  go_wp2
  go_ret
  exact ⟨rfl, B3.out⟩
set_option maxRecDepth 100000 in
set_option maxHeartbeats 8000000 in
theorem numbers_main_ne (kd : Int) (g : Bool) (x : Nat) (b : Int) (s : ByteArray) (la : Option Addr) (lc : Nat) (kc : Nat) (bits : Int) (_hb0 : 0 ≤ bits) (_hb1 : bits ≤ 18446744073709551615) (name : ByteArray) (w : World) (hT : Tb w) (n m : Nat) (ka : Option Addr) (_hn4 : n ≤ 400) (hm4 : m ≤ 400) (h0 : 0 < m) (hne : m ≠ n)
    (kdu : Int) (gu : Bool) (xu : Nat) (bu : Int) (su : ByteArray) (lau : Option Addr) (lcu : Nat) (kau : Option Addr) (kcu : Nat) (ksu : List ByteArray) (lu : List VT) (q : Bool) (hU : VT.In w (.mk ⟨kdu, gu, xu, bu, su, lau, lcu, kau, kcu, ksu⟩ lu))
    (kn : Int) (gn : Bool) (xn : Nat) (bn : Int) (hN : ∀ W, VT.In W (.mk ⟨kn, gn, xn, bn, ⟨#[]⟩, none, 0, none, 0, []⟩ [])) (hNN : sameT (.mk ⟨kn, gn, xn, bn, ⟨#[]⟩, none, 0, none, 0, []⟩ []) (.mk ⟨kn, gn, xn, bn, ⟨#[]⟩, none, 0, none, 0, []⟩ []) = true)
    (k1 : ∀ W, Below w.heap.size w W → Calls Tryz.prog 16 #[V10 kd g (lb 0 x) (lb 1 x) (lb 2 x) (lb 3 x) b s la n lc ka m kc] W fun e w' => e = .returned (.bool true) ∧ Below W.heap.size W w')
    (k2 : ∀ W, Below w.heap.size w W → Calls Tryz.prog 18 #[V10 kd g (lb 0 x) (lb 1 x) (lb 2 x) (lb 3 x) b s la n lc ka m kc] W fun e w' => e = .returned (.int .i64 0) ∧ Below W.heap.size W w')
    (k3 : ∀ W, Below w.heap.size w W → Calls Tryz.prog 19 #[V10 kd g (lb 0 x) (lb 1 x) (lb 2 x) (lb 3 x) b s la n lc ka m kc, .string name] W (GetA W (.mk ⟨kdu, gu, xu, bu, su, lau, lcu, kau, kcu, ksu⟩ lu) q))
    (k4 : ∀ W, Below w.heap.size w W → Calls Tryz.prog 20 #[V10 kd g (lb 0 x) (lb 1 x) (lb 2 x) (lb 3 x) b s la n lc ka m kc, .string name] W fun e w' => e = .returned (.tuple #[V10 kdu gu (lb 0 xu) (lb 1 xu) (lb 2 xu) (lb 3 xu) bu su lau lu.length lcu kau ksu.length kcu, .bool q]) ∧ Below W.heap.size W w')
    (k5 : ∀ W, Below w.heap.size w W → Calls Tryz.prog 21 #[.int .u64 bits] W fun e w' => e = .returned (V10 kn gn (lb 0 xn) (lb 1 xn) (lb 2 xn) (lb 3 xn) bn ⟨#[]⟩ none 0 0 none 0 0) ∧ Below W.heap.size W w')
    (k6 : ∀ W, Below w.heap.size w W → Calls Tryz.prog 22 #[.int .u64 bits] W fun e w' => e = .returned (V10 kn gn (lb 0 xn) (lb 1 xn) (lb 2 xn) (lb 3 xn) bn ⟨#[]⟩ none 0 0 none 0 0) ∧ Below W.heap.size W w')
    (k7 : ∀ W, Below w.heap.size w W → Calls Tryz.prog 23 #[V10 kn gn (lb 0 xn) (lb 1 xn) (lb 2 xn) (lb 3 xn) bn ⟨#[]⟩ none 0 0 none 0 0] W fun e w' => e = .returned (.int .i64 0) ∧ Below W.heap.size W w') :
    Calls Tryz.prog 4 #[.int .u64 bits, V10 kd g (lb 0 x) (lb 1 x) (lb 2 x) (lb 3 x) b s la n lc ka m kc, .string name] w fun e w' => e = .returned (.bool true) ∧ Below w.heap.size w w' := by
  have HT := Lib.hid hT; have K1 := Lib.hid k1; have K2 := Lib.hid k2; have K3 := Lib.hid k3; have K4 := Lib.hid k4; have K5 := Lib.hid k5; have K6 := Lib.hid k6; have K7 := Lib.hid k7; have HU := Lib.hid hU; have HN := Lib.hid hN; have HNN := Lib.hid hNN
  clear hT k1 k2 k3 k4 k5 k6 k7 hU hN hNN
  have h0' : (0 : Int) < (m : Int) := by omega
  have hne' : ((m : Int) == (n : Int)) = false := by rw [beq_eq_false_iff_ne]; omega
  go_enter Tryz.func4, Tryz.ntmps4
  go_wp2_with fail
  ((with_reducible refine (K1.out _ (bal (Below.refl _ _) _)).mono ?_); rintro e w1 ⟨rfl, hb⟩)
  have B1 := Lib.hid (btr (bal (Below.refl w.heap.size w) _) hb); have X1 := Row10.keep hb (Row10.new w (.int .i64 kd) (.bool g) (.int .u64 (lb 0 x)) (.int .u64 (lb 1 x)) (.int .u64 (lb 2 x)) (.int .u64 (lb 3 x)) (.int .u64 b) (.string s) (.slice la n lc) (.slice ka m kc))
  clear hb
  obtain ⟨p0, p1, p2, p3, p4, p5, p6, p7, p8, p9⟩ := X1.parts
  go_wp2_with fail
  ((with_reducible refine (K2.out _ B1.out).mono ?_); rintro e w2 ⟨rfl, hb⟩)
  have B2 := Lib.hid (btr B1.out hb); have X2 := Row10.keep hb X1
  clear hb B1 X1 p0 p1 p2 p3 p4 p5 p6 p7 p8 p9
  obtain ⟨p0, p1, p2, p3, p4, p5, p6, p7, p8, p9⟩ := X2.parts
  go_wp2_with fail
  ((with_reducible refine (K3.out _ B2.out).mono ?_); rintro e w3 ⟨kd3, g3, x3, b3, s3, la3, lc3, ka3, kc3, ks3, l3, rfl, hIn, hS, hb⟩)
  have B3 := Lib.hid (btr B2.out hb); have X3 := Row10.keep hb X2
  have HS := Lib.hid hS; have HIN := Lib.hid hIn
  clear hb B2 X2 hIn hS p0 p1 p2 p3 p4 p5 p6 p7 p8 p9
  obtain ⟨p0, p1, p2, p3, p4, p5, p6, p7, p8, p9⟩ := X3.parts
  have a0 := fun o => alloc_cell p0 o
  have a1 := fun o => alloc_cell p1 o
  have a2 := fun o => alloc_cell p2 o
  have a3 := fun o => alloc_cell p3 o
  have a4 := fun o => alloc_cell p4 o
  have a5 := fun o => alloc_cell p5 o
  have a6 := fun o => alloc_cell p6 o
  have a7 := fun o => alloc_cell p7 o
  have a8 := fun o => alloc_cell p8 o
  have a9 := fun o => alloc_cell p9 o
  go_wp2_with fail
  ((with_reducible refine (K4.out _ (bal B3.out _)).mono ?_); rintro e w4 ⟨rfl, hb⟩)
  have B4 := Lib.hid (btr (bal B3.out _) hb)
  have A4 := Row10.keep hb (Row10.new w3 (.int .i64 kd3) (.bool g3) (.int .u64 (lb 0 x3)) (.int .u64 (lb 1 x3)) (.int .u64 (lb 2 x3)) (.int .u64 (lb 3 x3)) (.int .u64 b3) (.string s3) (.slice la3 l3.length lc3) (.slice ka3 ks3.length kc3))
  have HI4 := Lib.hid ((HIN.out.keep (bal (Below.refl _ w3) _)).keep hb)
  clear hb B3 X3 HIN p0 p1 p2 p3 p4 p5 p6 p7 p8 p9 a0 a1 a2 a3 a4 a5 a6 a7 a8 a9
  go_wp2_with fail
  ((with_reducible refine (K5.out _ (bal B4.out _)).mono ?_); rintro e w5 ⟨rfl, hb⟩)
  have B5 := Lib.hid (btr (bal B4.out _) hb)
  have A5 := Row10.keep hb (Row10.alloc A4 _)
  have U5 := Row10.keep hb (Row10.new w4 (.int .i64 kdu) (.bool gu) (.int .u64 (lb 0 xu)) (.int .u64 (lb 1 xu)) (.int .u64 (lb 2 xu)) (.int .u64 (lb 3 xu)) (.int .u64 bu) (.string su) (.slice lau lu.length lcu) (.slice kau ksu.length kcu))
  have HI5 := Lib.hid ((HI4.out.keep (bal (Below.refl _ w4) _)).keep hb)
  clear hb B4 A4 HI4
  have N6 := Row10.new w5 (.int .i64 kn) (.bool gn) (.int .u64 (lb 0 xn)) (.int .u64 (lb 1 xn)) (.int .u64 (lb 2 xn)) (.int .u64 (lb 3 xn)) (.int .u64 bn) (.string ⟨#[]⟩) (.slice none 0 0) (.slice none 0 0)
  have A6 := Row10.alloc A5 (.cells #[.int .i64 kn, .bool gn, .int .u64 (lb 0 xn), .int .u64 (lb 1 xn), .int .u64 (lb 2 xn), .int .u64 (lb 3 xn), .int .u64 bn, .string ⟨#[]⟩, .slice none 0 0, .slice none 0 0] 31)
  have U6 := Row10.alloc U5 (.cells #[.int .i64 kn, .bool gn, .int .u64 (lb 0 xn), .int .u64 (lb 1 xn), .int .u64 (lb 2 xn), .int .u64 (lb 3 xn), .int .u64 bn, .string ⟨#[]⟩, .slice none 0 0, .slice none 0 0] 31)
  have B6 := Lib.hid (bal B5.out (.cells #[.int .i64 kn, .bool gn, .int .u64 (lb 0 xn), .int .u64 (lb 1 xn), .int .u64 (lb 2 xn), .int .u64 (lb 3 xn), .int .u64 bn, .string ⟨#[]⟩, .slice none 0 0, .slice none 0 0] 31))
  have HI6 := Lib.hid (HI5.out.keep (bal (Below.refl _ w5) (.cells #[.int .i64 kn, .bool gn, .int .u64 (lb 0 xn), .int .u64 (lb 1 xn), .int .u64 (lb 2 xn), .int .u64 (lb 3 xn), .int .u64 bn, .string ⟨#[]⟩, .slice none 0 0, .slice none 0 0] 31)))
  go_upto_region 10 with (fail)
  go_name_world w6 hw6
  rw [hw6] at N6 A6 U6 B6 HI6
  clear hw6 A5 U5 B5 HI5
  obtain ⟨n0, n1, n2, n3, n4, n5, n6, n7, n8, n9⟩ := N6.parts
  obtain ⟨a0, a1, a2, a3, a4, a5, a6, a7, a8, a9⟩ := A6.parts
  obtain ⟨u0, u1, u2, u3, u4, u5, u6, u7, u8, u9⟩ := U6.parts
  have rn0 := cell_regrown n0; have ra0 := cell_regrown a0; have ru0 := cell_regrown u0
  have rn1 := cell_regrown n1; have ra1 := cell_regrown a1; have ru1 := cell_regrown u1
  have rn2 := cell_regrown n2; have ra2 := cell_regrown a2; have ru2 := cell_regrown u2
  have rn3 := cell_regrown n3; have ra3 := cell_regrown a3; have ru3 := cell_regrown u3
  have rn4 := cell_regrown n4; have ra4 := cell_regrown a4; have ru4 := cell_regrown u4
  have rn5 := cell_regrown n5; have ra5 := cell_regrown a5; have ru5 := cell_regrown u5
  have rn6 := cell_regrown n6; have ra6 := cell_regrown a6; have ru6 := cell_regrown u6
  have rn7 := cell_regrown n7; have ra7 := cell_regrown a7; have ru7 := cell_regrown u7
  have rn8 := cell_regrown n8; have ra8 := cell_regrown a8; have ru8 := cell_regrown u8
  have rn9 := cell_regrown n9; have ra9 := cell_regrown a9; have ru9 := cell_regrown u9
  clear n0 a0 u0 n1 a1 u1 n2 a2 u2 n3 a3 u3 n4 a4 u4 n5 a5 u5 n6 a6 u6 n7 a7 u7 n8 a8 u8 n9 a9 u9 N6 A6 U6
  have cqT := fun (d : Nat) (os : Array Obj) => Calls.regrown_of (w := w6) (d := d) (os := os) (told6_true _ (tb_on HT.out (btr B6.out (below_regrown w6 d os))))
  have cqS := fun (d : Nat) (os : Array Obj) => Calls.regrown_of (w := w6) (d := d) (os := os) (rsame (.mk ⟨kd3, g3, x3, b3, s3, la3, lc3, ka3, kc3, ks3⟩ l3) (.mk ⟨kdu, gu, xu, bu, su, lau, lcu, kau, kcu, ksu⟩ lu) _ (HI6.out.keep (below_regrown w6 d os)) (HU.out.keep (btr B6.out (below_regrown w6 d os))))
  rw [HS.out] at cqS
  have cqN := fun (d : Nat) (os : Array Obj) => Calls.regrown_of (w := w6) (d := d) (os := os) (K6.out _ (btr B6.out (below_regrown w6 d os)))
  have cqM := fun (d : Nat) (os : Array Obj) => Calls.regrown_of (w := w6) (d := d) (os := os) (rsame (.mk ⟨kn, gn, xn, bn, ⟨#[]⟩, none, 0, none, 0, []⟩ []) (.mk ⟨kn, gn, xn, bn, ⟨#[]⟩, none, 0, none, 0, []⟩ []) _ (HN.out _) (HN.out _))
  rw [HNN.out] at cqM
  have cqV := fun (d : Nat) (os : Array Obj) => Calls.regrown_of (w := w6) (d := d) (os := os) (K7.out _ (btr B6.out (below_regrown w6 d os)))
  simp only [VT.val, VT.cells, VT.o_mk, VT.kids_mk, List.length_nil] at cqS cqM
  refine wp_region_quiet_below (by kernel_rfl) (by kernel_rfl) ?_
  repeat (first | go_big_quiet_step ((first | with_reducible exact cqT _ _ | with_reducible exact cqS _ _ | with_reducible exact cqN _ _ | with_reducible exact cqM _ _ | with_reducible exact cqV _ _)) | quiet_step (first | with_reducible exact cqT _ _ | with_reducible exact cqS _ _ | with_reducible exact cqN _ _ | with_reducible exact cqM _ _ | with_reducible exact cqV _ _))
  refine wpQuiet_nil ?_
  intro _ hw'
  obtain ⟨⟨dq, osq⟩, hw''⟩ := hw'
  subst hw''
  have hb := below_regrown w6 dq osq
  generalize grow (redrawn w6 dq) osq = w7 at *
  have B7 := Lib.hid (btr B6.out hb)
  clear hb
  clear rn0 ra0 ru0 rn1 ra1 ru1 rn2 ra2 ru2 rn3 ra3 ru3 rn4 ra4 ru4 rn5 ra5 ru5 rn6 ra6 ru6 rn7 ra7 ru7 rn8 ra8 ru8 rn9 ra9 ru9 cqT cqS cqN cqM cqV
  go_wp2
  go_ret
  exact ⟨rfl, B7.out⟩
set_option maxRecDepth 100000 in
set_option maxHeartbeats 8000000 in
theorem numbers_may_bit (kd : Int) (g : Bool) (x : Nat) (b : Int) (s : ByteArray) (la : Option Addr) (lc : Nat) (kc : Nat) (bits : Int) (_hb0 : 0 ≤ bits) (_hb1 : bits ≤ 18446744073709551615) (name : ByteArray) (w : World) (hT : Tb w) (n : Nat) (ka : Option Addr) (_hn4 : n ≤ 400) (h0 : 0 < n) (hbit : (Go.bits BinOp.and IntKind.u64 bits 1 == 1) = false) (z : Int) (hz : (z != 0) = true)
    (k1 : ∀ W, Below w.heap.size w W → Calls Tryz.prog 16 #[V10 kd g (lb 0 x) (lb 1 x) (lb 2 x) (lb 3 x) b s la n lc ka n kc] W fun e w' => e = .returned (.bool true) ∧ Below W.heap.size W w')
    (k2 : ∀ W, Below w.heap.size w W → Calls Tryz.prog 18 #[V10 kd g (lb 0 x) (lb 1 x) (lb 2 x) (lb 3 x) b s la n lc ka n kc] W fun e w' => e = .returned (.int .i64 z) ∧ Below W.heap.size W w') :
    Calls Tryz.prog 4 #[.int .u64 bits, V10 kd g (lb 0 x) (lb 1 x) (lb 2 x) (lb 3 x) b s la n lc ka n kc, .string name] w fun e w' => e = .returned (.bool true) ∧ Below w.heap.size w w' := by
  have HT := Lib.hid hT; have K1 := Lib.hid k1; have K2 := Lib.hid k2
  clear hT k1 k2
  have h0' : (0 : Int) < (n : Int) := by omega
  go_enter Tryz.func4, Tryz.ntmps4
  go_wp2_with fail
  ((with_reducible refine (K1.out _ (bal (Below.refl _ _) _)).mono ?_); rintro e w1 ⟨rfl, hb⟩)
  have B1 := Lib.hid (btr (bal (Below.refl w.heap.size w) _) hb); have X1 := Row10.keep hb (Row10.new w (.int .i64 kd) (.bool g) (.int .u64 (lb 0 x)) (.int .u64 (lb 1 x)) (.int .u64 (lb 2 x)) (.int .u64 (lb 3 x)) (.int .u64 b) (.string s) (.slice la n lc) (.slice ka n kc))
  clear hb
  obtain ⟨p0, p1, p2, p3, p4, p5, p6, p7, p8, p9⟩ := X1.parts
  go_wp2_with fail
  ((with_reducible refine (K2.out _ B1.out).mono ?_); rintro e w2 ⟨rfl, hb⟩)
  have B2 := Lib.hid (btr B1.out hb); have X2 := Row10.keep hb X1
  clear hb B1 X1 p0 p1 p2 p3 p4 p5 p6 p7 p8 p9
  go_wp2_with fail
  ((with_reducible refine (told6_true _ (tb_on HT.out B2.out)).mono ?_); rintro e w3 ⟨rfl, hb⟩)
  have B3 := Lib.hid (btr B2.out hb)
  clear hb
  go_wp2
  go_ret
  exact ⟨rfl, B3.out⟩
set_option maxRecDepth 100000 in
set_option maxHeartbeats 8000000 in
theorem numbers_main_bit (kd : Int) (g : Bool) (x : Nat) (b : Int) (s : ByteArray) (la : Option Addr) (lc : Nat) (kc : Nat) (bits : Int) (_hb0 : 0 ≤ bits) (_hb1 : bits ≤ 18446744073709551615) (name : ByteArray) (w : World) (hT : Tb w) (n : Nat) (ka : Option Addr) (_hn4 : n ≤ 400) (h0 : 0 < n) (hbit : (Go.bits BinOp.and IntKind.u64 bits 1 == 1) = false)
    (kdu : Int) (gu : Bool) (xu : Nat) (bu : Int) (su : ByteArray) (lau : Option Addr) (lcu : Nat) (kau : Option Addr) (kcu : Nat) (ksu : List ByteArray) (lu : List VT) (q : Bool) (hU : VT.In w (.mk ⟨kdu, gu, xu, bu, su, lau, lcu, kau, kcu, ksu⟩ lu))
    (kn : Int) (gn : Bool) (xn : Nat) (bn : Int) (hN : ∀ W, VT.In W (.mk ⟨kn, gn, xn, bn, ⟨#[]⟩, none, 0, none, 0, []⟩ [])) (hNN : sameT (.mk ⟨kn, gn, xn, bn, ⟨#[]⟩, none, 0, none, 0, []⟩ []) (.mk ⟨kn, gn, xn, bn, ⟨#[]⟩, none, 0, none, 0, []⟩ []) = true)
    (k1 : ∀ W, Below w.heap.size w W → Calls Tryz.prog 16 #[V10 kd g (lb 0 x) (lb 1 x) (lb 2 x) (lb 3 x) b s la n lc ka n kc] W fun e w' => e = .returned (.bool true) ∧ Below W.heap.size W w')
    (k2 : ∀ W, Below w.heap.size w W → Calls Tryz.prog 18 #[V10 kd g (lb 0 x) (lb 1 x) (lb 2 x) (lb 3 x) b s la n lc ka n kc] W fun e w' => e = .returned (.int .i64 0) ∧ Below W.heap.size W w')
    (k3 : ∀ W, Below w.heap.size w W → Calls Tryz.prog 19 #[V10 kd g (lb 0 x) (lb 1 x) (lb 2 x) (lb 3 x) b s la n lc ka n kc, .string name] W (GetA W (.mk ⟨kdu, gu, xu, bu, su, lau, lcu, kau, kcu, ksu⟩ lu) q))
    (k4 : ∀ W, Below w.heap.size w W → Calls Tryz.prog 20 #[V10 kd g (lb 0 x) (lb 1 x) (lb 2 x) (lb 3 x) b s la n lc ka n kc, .string name] W fun e w' => e = .returned (.tuple #[V10 kdu gu (lb 0 xu) (lb 1 xu) (lb 2 xu) (lb 3 xu) bu su lau lu.length lcu kau ksu.length kcu, .bool q]) ∧ Below W.heap.size W w')
    (k5 : ∀ W, Below w.heap.size w W → Calls Tryz.prog 21 #[.int .u64 bits] W fun e w' => e = .returned (V10 kn gn (lb 0 xn) (lb 1 xn) (lb 2 xn) (lb 3 xn) bn ⟨#[]⟩ none 0 0 none 0 0) ∧ Below W.heap.size W w')
    (k6 : ∀ W, Below w.heap.size w W → Calls Tryz.prog 22 #[.int .u64 bits] W fun e w' => e = .returned (V10 kn gn (lb 0 xn) (lb 1 xn) (lb 2 xn) (lb 3 xn) bn ⟨#[]⟩ none 0 0 none 0 0) ∧ Below W.heap.size W w')
    (k7 : ∀ W, Below w.heap.size w W → Calls Tryz.prog 23 #[V10 kn gn (lb 0 xn) (lb 1 xn) (lb 2 xn) (lb 3 xn) bn ⟨#[]⟩ none 0 0 none 0 0] W fun e w' => e = .returned (.int .i64 0) ∧ Below W.heap.size W w') :
    Calls Tryz.prog 4 #[.int .u64 bits, V10 kd g (lb 0 x) (lb 1 x) (lb 2 x) (lb 3 x) b s la n lc ka n kc, .string name] w fun e w' => e = .returned (.bool true) ∧ Below w.heap.size w w' := by
  have HT := Lib.hid hT; have K1 := Lib.hid k1; have K2 := Lib.hid k2; have K3 := Lib.hid k3; have K4 := Lib.hid k4; have K5 := Lib.hid k5; have K6 := Lib.hid k6; have K7 := Lib.hid k7; have HU := Lib.hid hU; have HN := Lib.hid hN; have HNN := Lib.hid hNN
  clear hT k1 k2 k3 k4 k5 k6 k7 hU hN hNN
  have h0' : (0 : Int) < (n : Int) := by omega
  go_enter Tryz.func4, Tryz.ntmps4
  go_wp2_with fail
  ((with_reducible refine (K1.out _ (bal (Below.refl _ _) _)).mono ?_); rintro e w1 ⟨rfl, hb⟩)
  have B1 := Lib.hid (btr (bal (Below.refl w.heap.size w) _) hb); have X1 := Row10.keep hb (Row10.new w (.int .i64 kd) (.bool g) (.int .u64 (lb 0 x)) (.int .u64 (lb 1 x)) (.int .u64 (lb 2 x)) (.int .u64 (lb 3 x)) (.int .u64 b) (.string s) (.slice la n lc) (.slice ka n kc))
  clear hb
  obtain ⟨p0, p1, p2, p3, p4, p5, p6, p7, p8, p9⟩ := X1.parts
  go_wp2_with fail
  ((with_reducible refine (K2.out _ B1.out).mono ?_); rintro e w2 ⟨rfl, hb⟩)
  have B2 := Lib.hid (btr B1.out hb); have X2 := Row10.keep hb X1
  clear hb B1 X1 p0 p1 p2 p3 p4 p5 p6 p7 p8 p9
  obtain ⟨p0, p1, p2, p3, p4, p5, p6, p7, p8, p9⟩ := X2.parts
  go_wp2_with fail
  ((with_reducible refine (K3.out _ B2.out).mono ?_); rintro e w3 ⟨kd3, g3, x3, b3, s3, la3, lc3, ka3, kc3, ks3, l3, rfl, hIn, hS, hb⟩)
  have B3 := Lib.hid (btr B2.out hb); have X3 := Row10.keep hb X2
  have HS := Lib.hid hS; have HIN := Lib.hid hIn
  clear hb B2 X2 hIn hS p0 p1 p2 p3 p4 p5 p6 p7 p8 p9
  obtain ⟨p0, p1, p2, p3, p4, p5, p6, p7, p8, p9⟩ := X3.parts
  have a0 := fun o => alloc_cell p0 o
  have a1 := fun o => alloc_cell p1 o
  have a2 := fun o => alloc_cell p2 o
  have a3 := fun o => alloc_cell p3 o
  have a4 := fun o => alloc_cell p4 o
  have a5 := fun o => alloc_cell p5 o
  have a6 := fun o => alloc_cell p6 o
  have a7 := fun o => alloc_cell p7 o
  have a8 := fun o => alloc_cell p8 o
  have a9 := fun o => alloc_cell p9 o
  go_wp2_with fail
  ((with_reducible refine (K4.out _ (bal B3.out _)).mono ?_); rintro e w4 ⟨rfl, hb⟩)
  have B4 := Lib.hid (btr (bal B3.out _) hb)
  have A4 := Row10.keep hb (Row10.new w3 (.int .i64 kd3) (.bool g3) (.int .u64 (lb 0 x3)) (.int .u64 (lb 1 x3)) (.int .u64 (lb 2 x3)) (.int .u64 (lb 3 x3)) (.int .u64 b3) (.string s3) (.slice la3 l3.length lc3) (.slice ka3 ks3.length kc3))
  have HI4 := Lib.hid ((HIN.out.keep (bal (Below.refl _ w3) _)).keep hb)
  clear hb B3 X3 HIN p0 p1 p2 p3 p4 p5 p6 p7 p8 p9 a0 a1 a2 a3 a4 a5 a6 a7 a8 a9
  go_wp2_with fail
  ((with_reducible refine (K5.out _ (bal B4.out _)).mono ?_); rintro e w5 ⟨rfl, hb⟩)
  have B5 := Lib.hid (btr (bal B4.out _) hb)
  have A5 := Row10.keep hb (Row10.alloc A4 _)
  have U5 := Row10.keep hb (Row10.new w4 (.int .i64 kdu) (.bool gu) (.int .u64 (lb 0 xu)) (.int .u64 (lb 1 xu)) (.int .u64 (lb 2 xu)) (.int .u64 (lb 3 xu)) (.int .u64 bu) (.string su) (.slice lau lu.length lcu) (.slice kau ksu.length kcu))
  have HI5 := Lib.hid ((HI4.out.keep (bal (Below.refl _ w4) _)).keep hb)
  clear hb B4 A4 HI4
  have N6 := Row10.new w5 (.int .i64 kn) (.bool gn) (.int .u64 (lb 0 xn)) (.int .u64 (lb 1 xn)) (.int .u64 (lb 2 xn)) (.int .u64 (lb 3 xn)) (.int .u64 bn) (.string ⟨#[]⟩) (.slice none 0 0) (.slice none 0 0)
  have A6 := Row10.alloc A5 (.cells #[.int .i64 kn, .bool gn, .int .u64 (lb 0 xn), .int .u64 (lb 1 xn), .int .u64 (lb 2 xn), .int .u64 (lb 3 xn), .int .u64 bn, .string ⟨#[]⟩, .slice none 0 0, .slice none 0 0] 31)
  have U6 := Row10.alloc U5 (.cells #[.int .i64 kn, .bool gn, .int .u64 (lb 0 xn), .int .u64 (lb 1 xn), .int .u64 (lb 2 xn), .int .u64 (lb 3 xn), .int .u64 bn, .string ⟨#[]⟩, .slice none 0 0, .slice none 0 0] 31)
  have B6 := Lib.hid (bal B5.out (.cells #[.int .i64 kn, .bool gn, .int .u64 (lb 0 xn), .int .u64 (lb 1 xn), .int .u64 (lb 2 xn), .int .u64 (lb 3 xn), .int .u64 bn, .string ⟨#[]⟩, .slice none 0 0, .slice none 0 0] 31))
  have HI6 := Lib.hid (HI5.out.keep (bal (Below.refl _ w5) (.cells #[.int .i64 kn, .bool gn, .int .u64 (lb 0 xn), .int .u64 (lb 1 xn), .int .u64 (lb 2 xn), .int .u64 (lb 3 xn), .int .u64 bn, .string ⟨#[]⟩, .slice none 0 0, .slice none 0 0] 31)))
  go_upto_region 10 with (fail)
  go_name_world w6 hw6
  rw [hw6] at N6 A6 U6 B6 HI6
  clear hw6 A5 U5 B5 HI5
  obtain ⟨n0, n1, n2, n3, n4, n5, n6, n7, n8, n9⟩ := N6.parts
  obtain ⟨a0, a1, a2, a3, a4, a5, a6, a7, a8, a9⟩ := A6.parts
  obtain ⟨u0, u1, u2, u3, u4, u5, u6, u7, u8, u9⟩ := U6.parts
  have rn0 := cell_regrown n0; have ra0 := cell_regrown a0; have ru0 := cell_regrown u0
  have rn1 := cell_regrown n1; have ra1 := cell_regrown a1; have ru1 := cell_regrown u1
  have rn2 := cell_regrown n2; have ra2 := cell_regrown a2; have ru2 := cell_regrown u2
  have rn3 := cell_regrown n3; have ra3 := cell_regrown a3; have ru3 := cell_regrown u3
  have rn4 := cell_regrown n4; have ra4 := cell_regrown a4; have ru4 := cell_regrown u4
  have rn5 := cell_regrown n5; have ra5 := cell_regrown a5; have ru5 := cell_regrown u5
  have rn6 := cell_regrown n6; have ra6 := cell_regrown a6; have ru6 := cell_regrown u6
  have rn7 := cell_regrown n7; have ra7 := cell_regrown a7; have ru7 := cell_regrown u7
  have rn8 := cell_regrown n8; have ra8 := cell_regrown a8; have ru8 := cell_regrown u8
  have rn9 := cell_regrown n9; have ra9 := cell_regrown a9; have ru9 := cell_regrown u9
  clear n0 a0 u0 n1 a1 u1 n2 a2 u2 n3 a3 u3 n4 a4 u4 n5 a5 u5 n6 a6 u6 n7 a7 u7 n8 a8 u8 n9 a9 u9 N6 A6 U6
  have cqT := fun (d : Nat) (os : Array Obj) => Calls.regrown_of (w := w6) (d := d) (os := os) (told6_true _ (tb_on HT.out (btr B6.out (below_regrown w6 d os))))
  have cqS := fun (d : Nat) (os : Array Obj) => Calls.regrown_of (w := w6) (d := d) (os := os) (rsame (.mk ⟨kd3, g3, x3, b3, s3, la3, lc3, ka3, kc3, ks3⟩ l3) (.mk ⟨kdu, gu, xu, bu, su, lau, lcu, kau, kcu, ksu⟩ lu) _ (HI6.out.keep (below_regrown w6 d os)) (HU.out.keep (btr B6.out (below_regrown w6 d os))))
  rw [HS.out] at cqS
  have cqN := fun (d : Nat) (os : Array Obj) => Calls.regrown_of (w := w6) (d := d) (os := os) (K6.out _ (btr B6.out (below_regrown w6 d os)))
  have cqM := fun (d : Nat) (os : Array Obj) => Calls.regrown_of (w := w6) (d := d) (os := os) (rsame (.mk ⟨kn, gn, xn, bn, ⟨#[]⟩, none, 0, none, 0, []⟩ []) (.mk ⟨kn, gn, xn, bn, ⟨#[]⟩, none, 0, none, 0, []⟩ []) _ (HN.out _) (HN.out _))
  rw [HNN.out] at cqM
  have cqV := fun (d : Nat) (os : Array Obj) => Calls.regrown_of (w := w6) (d := d) (os := os) (K7.out _ (btr B6.out (below_regrown w6 d os)))
  simp only [VT.val, VT.cells, VT.o_mk, VT.kids_mk, List.length_nil] at cqS cqM
  refine wp_region_quiet_below (by kernel_rfl) (by kernel_rfl) ?_
  repeat (first | go_big_quiet_step ((first | with_reducible exact cqT _ _ | with_reducible exact cqS _ _ | with_reducible exact cqN _ _ | with_reducible exact cqM _ _ | with_reducible exact cqV _ _)) | quiet_step (first | with_reducible exact cqT _ _ | with_reducible exact cqS _ _ | with_reducible exact cqN _ _ | with_reducible exact cqM _ _ | with_reducible exact cqV _ _))
  refine wpQuiet_nil ?_
  intro _ hw'
  obtain ⟨⟨dq, osq⟩, hw''⟩ := hw'
  subst hw''
  have hb := below_regrown w6 dq osq
  generalize grow (redrawn w6 dq) osq = w7 at *
  have B7 := Lib.hid (btr B6.out hb)
  clear hb
  clear rn0 ra0 ru0 rn1 ra1 ru1 rn2 ra2 ru2 rn3 ra3 ru3 rn4 ra4 ru4 rn5 ra5 ru5 rn6 ra6 ru6 rn7 ra7 ru7 rn8 ra8 ru8 rn9 ra9 ru9 cqT cqS cqN cqM cqV
  go_wp2
  go_ret
  exact ⟨rfl, B7.out⟩
set_option maxRecDepth 100000 in
set_option maxHeartbeats 8000000 in
theorem numbers_may_pick (kd : Int) (g : Bool) (x : Nat) (b : Int) (s : ByteArray) (la : Option Addr) (lc : Nat) (kc : Nat) (bits : Int) (_hb0 : 0 ≤ bits) (_hb1 : bits ≤ 18446744073709551615) (name : ByteArray) (w : World) (hT : Tb w) (n : Nat) (kb koff : Nat) (key : ByteArray) (j : Nat) (hj : wrap64 (bits / 2 % (n : Int)) = (j : Int)) (hjn : j < n) (hcell : w.cell? ⟨kb, koff + j, none⟩ = some (.string key)) (_hn4 : n ≤ 400) (h0 : 0 < n) (hbit : (Go.bits BinOp.and IntKind.u64 bits 1 == 1) = true) (z : Int) (hz : (z != 0) = true)
    (k1 : ∀ W, Below w.heap.size w W → Calls Tryz.prog 16 #[V10 kd g (lb 0 x) (lb 1 x) (lb 2 x) (lb 3 x) b s la n lc (some ⟨kb, koff, none⟩) n kc] W fun e w' => e = .returned (.bool true) ∧ Below W.heap.size W w')
    (k2 : ∀ W, Below w.heap.size w W → Calls Tryz.prog 18 #[V10 kd g (lb 0 x) (lb 1 x) (lb 2 x) (lb 3 x) b s la n lc (some ⟨kb, koff, none⟩) n kc] W fun e w' => e = .returned (.int .i64 z) ∧ Below W.heap.size W w') :
    Calls Tryz.prog 4 #[.int .u64 bits, V10 kd g (lb 0 x) (lb 1 x) (lb 2 x) (lb 3 x) b s la n lc (some ⟨kb, koff, none⟩) n kc, .string name] w fun e w' => e = .returned (.bool true) ∧ Below w.heap.size w w' := by
  have HT := Lib.hid hT; have K1 := Lib.hid k1; have K2 := Lib.hid k2
  clear hT k1 k2
  have HCELL := Lib.hid hcell; have HJ := Lib.hid hj
  clear hcell hj
  have h0' : (0 : Int) < (n : Int) := by omega
  go_enter Tryz.func4, Tryz.ntmps4
  go_wp2_with fail
  ((with_reducible refine (K1.out _ (bal (Below.refl _ _) _)).mono ?_); rintro e w1 ⟨rfl, hb⟩)
  have B1 := Lib.hid (btr (bal (Below.refl w.heap.size w) _) hb); have X1 := Row10.keep hb (Row10.new w (.int .i64 kd) (.bool g) (.int .u64 (lb 0 x)) (.int .u64 (lb 1 x)) (.int .u64 (lb 2 x)) (.int .u64 (lb 3 x)) (.int .u64 b) (.string s) (.slice la n lc) (.slice (some ⟨kb, koff, none⟩) n kc))
  clear hb
  obtain ⟨p0, p1, p2, p3, p4, p5, p6, p7, p8, p9⟩ := X1.parts
  have hcell2 := cell_keep B1.out HCELL.out
  go_upto_region 4 with (fail)
  have r0 := cell_regrown p0
  have r1 := cell_regrown p1
  have r2 := cell_regrown p2
  have r3 := cell_regrown p3
  have r4 := cell_regrown p4
  have r5 := cell_regrown p5
  have r6 := cell_regrown p6
  have r7 := cell_regrown p7
  have r8 := cell_regrown p8
  have r9 := cell_regrown p9
  have rk := cell_regrown hcell2
  clear p0 p1 p2 p3 p4 p5 p6 p7 p8 p9 hcell2
  have hun : IntKind.u64.wrap (n : Int) = (n : Int) := by simp only [IntKind.wrap, IntKind.signed, IntKind.bits]; simp; omega
  have hnz : ¬ n = 0 := by omega
  have hnz0 : ((n : Int) == 0) = false := by rw [beq_eq_false_iff_ne]; omega
  have hjn2 : (j : Int) < (n : Int) := by omega
  have hj := HJ.out
  refine wp_region_quiet_below (by kernel_rfl) (by kernel_rfl) ?_
  repeat (first | go_big_quiet_step (fail) | quiet_step (fail))
  refine wpQuiet_nil ?_
  intro _ hw'
  obtain ⟨⟨dq, osq⟩, hw''⟩ := hw'
  subst hw''
  clear r0 r1 r2 r3 r4 r5 r6 r7 r8 r9 rk hj
  have hb := below_regrown w1 dq osq
  generalize grow (redrawn w1 dq) osq = w1' at *
  have B1' := Lib.hid (btr B1.out hb); have X1' := Row10.keep hb X1
  clear hb B1 X1
  obtain ⟨p0, p1, p2, p3, p4, p5, p6, p7, p8, p9⟩ := X1'.parts
  go_wp2_with fail
  ((with_reducible refine (K2.out _ B1'.out).mono ?_); rintro e w2 ⟨rfl, hb⟩)
  have B2 := Lib.hid (btr B1'.out hb); have X2 := Row10.keep hb X1'
  clear hb B1' X1' p0 p1 p2 p3 p4 p5 p6 p7 p8 p9
  go_wp2_with fail
  ((with_reducible refine (told6_true _ (tb_on HT.out B2.out)).mono ?_); rintro e w3 ⟨rfl, hb⟩)
  have B3 := Lib.hid (btr B2.out hb)
  clear hb
  go_wp2
  go_ret
  exact ⟨rfl, B3.out⟩
set_option maxRecDepth 100000 in
set_option maxHeartbeats 8000000 in
theorem numbers_main_pick (kd : Int) (g : Bool) (x : Nat) (b : Int) (s : ByteArray) (la : Option Addr) (lc : Nat) (kc : Nat) (bits : Int) (_hb0 : 0 ≤ bits) (_hb1 : bits ≤ 18446744073709551615) (name : ByteArray) (w : World) (hT : Tb w) (n : Nat) (kb koff : Nat) (key : ByteArray) (j : Nat) (hj : wrap64 (bits / 2 % (n : Int)) = (j : Int)) (hjn : j < n) (hcell : w.cell? ⟨kb, koff + j, none⟩ = some (.string key)) (_hn4 : n ≤ 400) (h0 : 0 < n) (hbit : (Go.bits BinOp.and IntKind.u64 bits 1 == 1) = true)
    (kdu : Int) (gu : Bool) (xu : Nat) (bu : Int) (su : ByteArray) (lau : Option Addr) (lcu : Nat) (kau : Option Addr) (kcu : Nat) (ksu : List ByteArray) (lu : List VT) (q : Bool) (hU : VT.In w (.mk ⟨kdu, gu, xu, bu, su, lau, lcu, kau, kcu, ksu⟩ lu))
    (kn : Int) (gn : Bool) (xn : Nat) (bn : Int) (hN : ∀ W, VT.In W (.mk ⟨kn, gn, xn, bn, ⟨#[]⟩, none, 0, none, 0, []⟩ [])) (hNN : sameT (.mk ⟨kn, gn, xn, bn, ⟨#[]⟩, none, 0, none, 0, []⟩ []) (.mk ⟨kn, gn, xn, bn, ⟨#[]⟩, none, 0, none, 0, []⟩ []) = true)
    (k1 : ∀ W, Below w.heap.size w W → Calls Tryz.prog 16 #[V10 kd g (lb 0 x) (lb 1 x) (lb 2 x) (lb 3 x) b s la n lc (some ⟨kb, koff, none⟩) n kc] W fun e w' => e = .returned (.bool true) ∧ Below W.heap.size W w')
    (k2 : ∀ W, Below w.heap.size w W → Calls Tryz.prog 18 #[V10 kd g (lb 0 x) (lb 1 x) (lb 2 x) (lb 3 x) b s la n lc (some ⟨kb, koff, none⟩) n kc] W fun e w' => e = .returned (.int .i64 0) ∧ Below W.heap.size W w')
    (k3 : ∀ W, Below w.heap.size w W → Calls Tryz.prog 19 #[V10 kd g (lb 0 x) (lb 1 x) (lb 2 x) (lb 3 x) b s la n lc (some ⟨kb, koff, none⟩) n kc, .string key] W (GetA W (.mk ⟨kdu, gu, xu, bu, su, lau, lcu, kau, kcu, ksu⟩ lu) q))
    (k4 : ∀ W, Below w.heap.size w W → Calls Tryz.prog 20 #[V10 kd g (lb 0 x) (lb 1 x) (lb 2 x) (lb 3 x) b s la n lc (some ⟨kb, koff, none⟩) n kc, .string key] W fun e w' => e = .returned (.tuple #[V10 kdu gu (lb 0 xu) (lb 1 xu) (lb 2 xu) (lb 3 xu) bu su lau lu.length lcu kau ksu.length kcu, .bool q]) ∧ Below W.heap.size W w')
    (k5 : ∀ W, Below w.heap.size w W → Calls Tryz.prog 21 #[.int .u64 bits] W fun e w' => e = .returned (V10 kn gn (lb 0 xn) (lb 1 xn) (lb 2 xn) (lb 3 xn) bn ⟨#[]⟩ none 0 0 none 0 0) ∧ Below W.heap.size W w')
    (k6 : ∀ W, Below w.heap.size w W → Calls Tryz.prog 22 #[.int .u64 bits] W fun e w' => e = .returned (V10 kn gn (lb 0 xn) (lb 1 xn) (lb 2 xn) (lb 3 xn) bn ⟨#[]⟩ none 0 0 none 0 0) ∧ Below W.heap.size W w')
    (k7 : ∀ W, Below w.heap.size w W → Calls Tryz.prog 23 #[V10 kn gn (lb 0 xn) (lb 1 xn) (lb 2 xn) (lb 3 xn) bn ⟨#[]⟩ none 0 0 none 0 0] W fun e w' => e = .returned (.int .i64 0) ∧ Below W.heap.size W w') :
    Calls Tryz.prog 4 #[.int .u64 bits, V10 kd g (lb 0 x) (lb 1 x) (lb 2 x) (lb 3 x) b s la n lc (some ⟨kb, koff, none⟩) n kc, .string name] w fun e w' => e = .returned (.bool true) ∧ Below w.heap.size w w' := by
  have HT := Lib.hid hT; have K1 := Lib.hid k1; have K2 := Lib.hid k2; have K3 := Lib.hid k3; have K4 := Lib.hid k4; have K5 := Lib.hid k5; have K6 := Lib.hid k6; have K7 := Lib.hid k7; have HU := Lib.hid hU; have HN := Lib.hid hN; have HNN := Lib.hid hNN
  clear hT k1 k2 k3 k4 k5 k6 k7 hU hN hNN
  have HCELL := Lib.hid hcell; have HJ := Lib.hid hj
  clear hcell hj
  have h0' : (0 : Int) < (n : Int) := by omega
  go_enter Tryz.func4, Tryz.ntmps4
  go_wp2_with fail
  ((with_reducible refine (K1.out _ (bal (Below.refl _ _) _)).mono ?_); rintro e w1 ⟨rfl, hb⟩)
  have B1 := Lib.hid (btr (bal (Below.refl w.heap.size w) _) hb); have X1 := Row10.keep hb (Row10.new w (.int .i64 kd) (.bool g) (.int .u64 (lb 0 x)) (.int .u64 (lb 1 x)) (.int .u64 (lb 2 x)) (.int .u64 (lb 3 x)) (.int .u64 b) (.string s) (.slice la n lc) (.slice (some ⟨kb, koff, none⟩) n kc))
  clear hb
  obtain ⟨p0, p1, p2, p3, p4, p5, p6, p7, p8, p9⟩ := X1.parts
  have hcell2 := cell_keep B1.out HCELL.out
  go_upto_region 4 with (fail)
  have r0 := cell_regrown p0
  have r1 := cell_regrown p1
  have r2 := cell_regrown p2
  have r3 := cell_regrown p3
  have r4 := cell_regrown p4
  have r5 := cell_regrown p5
  have r6 := cell_regrown p6
  have r7 := cell_regrown p7
  have r8 := cell_regrown p8
  have r9 := cell_regrown p9
  have rk := cell_regrown hcell2
  clear p0 p1 p2 p3 p4 p5 p6 p7 p8 p9 hcell2
  have hun : IntKind.u64.wrap (n : Int) = (n : Int) := by simp only [IntKind.wrap, IntKind.signed, IntKind.bits]; simp; omega
  have hnz : ¬ n = 0 := by omega
  have hnz0 : ((n : Int) == 0) = false := by rw [beq_eq_false_iff_ne]; omega
  have hjn2 : (j : Int) < (n : Int) := by omega
  have hj := HJ.out
  refine wp_region_quiet_below (by kernel_rfl) (by kernel_rfl) ?_
  repeat (first | go_big_quiet_step (fail) | quiet_step (fail))
  refine wpQuiet_nil ?_
  intro _ hw'
  obtain ⟨⟨dq, osq⟩, hw''⟩ := hw'
  subst hw''
  clear r0 r1 r2 r3 r4 r5 r6 r7 r8 r9 rk hj
  have hb := below_regrown w1 dq osq
  generalize grow (redrawn w1 dq) osq = w1' at *
  have B1' := Lib.hid (btr B1.out hb); have X1' := Row10.keep hb X1
  clear hb B1 X1
  obtain ⟨p0, p1, p2, p3, p4, p5, p6, p7, p8, p9⟩ := X1'.parts
  go_wp2_with fail
  ((with_reducible refine (K2.out _ B1'.out).mono ?_); rintro e w2 ⟨rfl, hb⟩)
  have B2 := Lib.hid (btr B1'.out hb); have X2 := Row10.keep hb X1'
  clear hb B1' X1' p0 p1 p2 p3 p4 p5 p6 p7 p8 p9
  obtain ⟨p0, p1, p2, p3, p4, p5, p6, p7, p8, p9⟩ := X2.parts
  go_wp2_with fail
  ((with_reducible refine (K3.out _ B2.out).mono ?_); rintro e w3 ⟨kd3, g3, x3, b3, s3, la3, lc3, ka3, kc3, ks3, l3, rfl, hIn, hS, hb⟩)
  have B3 := Lib.hid (btr B2.out hb); have X3 := Row10.keep hb X2
  have HS := Lib.hid hS; have HIN := Lib.hid hIn
  clear hb B2 X2 hIn hS p0 p1 p2 p3 p4 p5 p6 p7 p8 p9
  obtain ⟨p0, p1, p2, p3, p4, p5, p6, p7, p8, p9⟩ := X3.parts
  have a0 := fun o => alloc_cell p0 o
  have a1 := fun o => alloc_cell p1 o
  have a2 := fun o => alloc_cell p2 o
  have a3 := fun o => alloc_cell p3 o
  have a4 := fun o => alloc_cell p4 o
  have a5 := fun o => alloc_cell p5 o
  have a6 := fun o => alloc_cell p6 o
  have a7 := fun o => alloc_cell p7 o
  have a8 := fun o => alloc_cell p8 o
  have a9 := fun o => alloc_cell p9 o
  go_wp2_with fail
  ((with_reducible refine (K4.out _ (bal B3.out _)).mono ?_); rintro e w4 ⟨rfl, hb⟩)
  have B4 := Lib.hid (btr (bal B3.out _) hb)
  have A4 := Row10.keep hb (Row10.new w3 (.int .i64 kd3) (.bool g3) (.int .u64 (lb 0 x3)) (.int .u64 (lb 1 x3)) (.int .u64 (lb 2 x3)) (.int .u64 (lb 3 x3)) (.int .u64 b3) (.string s3) (.slice la3 l3.length lc3) (.slice ka3 ks3.length kc3))
  have HI4 := Lib.hid ((HIN.out.keep (bal (Below.refl _ w3) _)).keep hb)
  clear hb B3 X3 HIN p0 p1 p2 p3 p4 p5 p6 p7 p8 p9 a0 a1 a2 a3 a4 a5 a6 a7 a8 a9
  go_wp2_with fail
  ((with_reducible refine (K5.out _ (bal B4.out _)).mono ?_); rintro e w5 ⟨rfl, hb⟩)
  have B5 := Lib.hid (btr (bal B4.out _) hb)
  have A5 := Row10.keep hb (Row10.alloc A4 _)
  have U5 := Row10.keep hb (Row10.new w4 (.int .i64 kdu) (.bool gu) (.int .u64 (lb 0 xu)) (.int .u64 (lb 1 xu)) (.int .u64 (lb 2 xu)) (.int .u64 (lb 3 xu)) (.int .u64 bu) (.string su) (.slice lau lu.length lcu) (.slice kau ksu.length kcu))
  have HI5 := Lib.hid ((HI4.out.keep (bal (Below.refl _ w4) _)).keep hb)
  clear hb B4 A4 HI4
  have N6 := Row10.new w5 (.int .i64 kn) (.bool gn) (.int .u64 (lb 0 xn)) (.int .u64 (lb 1 xn)) (.int .u64 (lb 2 xn)) (.int .u64 (lb 3 xn)) (.int .u64 bn) (.string ⟨#[]⟩) (.slice none 0 0) (.slice none 0 0)
  have A6 := Row10.alloc A5 (.cells #[.int .i64 kn, .bool gn, .int .u64 (lb 0 xn), .int .u64 (lb 1 xn), .int .u64 (lb 2 xn), .int .u64 (lb 3 xn), .int .u64 bn, .string ⟨#[]⟩, .slice none 0 0, .slice none 0 0] 31)
  have U6 := Row10.alloc U5 (.cells #[.int .i64 kn, .bool gn, .int .u64 (lb 0 xn), .int .u64 (lb 1 xn), .int .u64 (lb 2 xn), .int .u64 (lb 3 xn), .int .u64 bn, .string ⟨#[]⟩, .slice none 0 0, .slice none 0 0] 31)
  have B6 := Lib.hid (bal B5.out (.cells #[.int .i64 kn, .bool gn, .int .u64 (lb 0 xn), .int .u64 (lb 1 xn), .int .u64 (lb 2 xn), .int .u64 (lb 3 xn), .int .u64 bn, .string ⟨#[]⟩, .slice none 0 0, .slice none 0 0] 31))
  have HI6 := Lib.hid (HI5.out.keep (bal (Below.refl _ w5) (.cells #[.int .i64 kn, .bool gn, .int .u64 (lb 0 xn), .int .u64 (lb 1 xn), .int .u64 (lb 2 xn), .int .u64 (lb 3 xn), .int .u64 bn, .string ⟨#[]⟩, .slice none 0 0, .slice none 0 0] 31)))
  go_upto_region 10 with (fail)
  go_name_world w6 hw6
  rw [hw6] at N6 A6 U6 B6 HI6
  clear hw6 A5 U5 B5 HI5
  obtain ⟨n0, n1, n2, n3, n4, n5, n6, n7, n8, n9⟩ := N6.parts
  obtain ⟨a0, a1, a2, a3, a4, a5, a6, a7, a8, a9⟩ := A6.parts
  obtain ⟨u0, u1, u2, u3, u4, u5, u6, u7, u8, u9⟩ := U6.parts
  have rn0 := cell_regrown n0; have ra0 := cell_regrown a0; have ru0 := cell_regrown u0
  have rn1 := cell_regrown n1; have ra1 := cell_regrown a1; have ru1 := cell_regrown u1
  have rn2 := cell_regrown n2; have ra2 := cell_regrown a2; have ru2 := cell_regrown u2
  have rn3 := cell_regrown n3; have ra3 := cell_regrown a3; have ru3 := cell_regrown u3
  have rn4 := cell_regrown n4; have ra4 := cell_regrown a4; have ru4 := cell_regrown u4
  have rn5 := cell_regrown n5; have ra5 := cell_regrown a5; have ru5 := cell_regrown u5
  have rn6 := cell_regrown n6; have ra6 := cell_regrown a6; have ru6 := cell_regrown u6
  have rn7 := cell_regrown n7; have ra7 := cell_regrown a7; have ru7 := cell_regrown u7
  have rn8 := cell_regrown n8; have ra8 := cell_regrown a8; have ru8 := cell_regrown u8
  have rn9 := cell_regrown n9; have ra9 := cell_regrown a9; have ru9 := cell_regrown u9
  clear n0 a0 u0 n1 a1 u1 n2 a2 u2 n3 a3 u3 n4 a4 u4 n5 a5 u5 n6 a6 u6 n7 a7 u7 n8 a8 u8 n9 a9 u9 N6 A6 U6
  have cqT := fun (d : Nat) (os : Array Obj) => Calls.regrown_of (w := w6) (d := d) (os := os) (told6_true _ (tb_on HT.out (btr B6.out (below_regrown w6 d os))))
  have cqS := fun (d : Nat) (os : Array Obj) => Calls.regrown_of (w := w6) (d := d) (os := os) (rsame (.mk ⟨kd3, g3, x3, b3, s3, la3, lc3, ka3, kc3, ks3⟩ l3) (.mk ⟨kdu, gu, xu, bu, su, lau, lcu, kau, kcu, ksu⟩ lu) _ (HI6.out.keep (below_regrown w6 d os)) (HU.out.keep (btr B6.out (below_regrown w6 d os))))
  rw [HS.out] at cqS
  have cqN := fun (d : Nat) (os : Array Obj) => Calls.regrown_of (w := w6) (d := d) (os := os) (K6.out _ (btr B6.out (below_regrown w6 d os)))
  have cqM := fun (d : Nat) (os : Array Obj) => Calls.regrown_of (w := w6) (d := d) (os := os) (rsame (.mk ⟨kn, gn, xn, bn, ⟨#[]⟩, none, 0, none, 0, []⟩ []) (.mk ⟨kn, gn, xn, bn, ⟨#[]⟩, none, 0, none, 0, []⟩ []) _ (HN.out _) (HN.out _))
  rw [HNN.out] at cqM
  have cqV := fun (d : Nat) (os : Array Obj) => Calls.regrown_of (w := w6) (d := d) (os := os) (K7.out _ (btr B6.out (below_regrown w6 d os)))
  simp only [VT.val, VT.cells, VT.o_mk, VT.kids_mk, List.length_nil] at cqS cqM
  refine wp_region_quiet_below (by kernel_rfl) (by kernel_rfl) ?_
  repeat (first | go_big_quiet_step ((first | with_reducible exact cqT _ _ | with_reducible exact cqS _ _ | with_reducible exact cqN _ _ | with_reducible exact cqM _ _ | with_reducible exact cqV _ _)) | quiet_step (first | with_reducible exact cqT _ _ | with_reducible exact cqS _ _ | with_reducible exact cqN _ _ | with_reducible exact cqM _ _ | with_reducible exact cqV _ _))
  refine wpQuiet_nil ?_
  intro _ hw'
  obtain ⟨⟨dq, osq⟩, hw''⟩ := hw'
  subst hw''
  have hb := below_regrown w6 dq osq
  generalize grow (redrawn w6 dq) osq = w7 at *
  have B7 := Lib.hid (btr B6.out hb)
  clear hb
  clear rn0 ra0 ru0 rn1 ra1 ru1 rn2 ra2 ru2 rn3 ra3 ru3 rn4 ra4 ru4 rn5 ra5 ru5 rn6 ra6 ru6 rn7 ra7 ru7 rn8 ra8 ru8 rn9 ra9 ru9 cqT cqS cqN cqM cqV
  go_wp2
  go_ret
  exact ⟨rfl, B7.out⟩
set_option maxRecDepth 100000 in
set_option maxHeartbeats 8000000 in
theorem numbers_few (kd : Int) (g : Bool) (x : Nat) (b : Int) (s : ByteArray) (la : Option Addr) (lc : Nat) (kc : Nat) (bits : Int) (name : ByteArray) (w : World) (hT : Tb w) (n m : Nat) (ka : Option Addr)
    (k1 : ∀ W, Below w.heap.size w W → Calls Tryz.prog 16 #[V10 kd g (lb 0 x) (lb 1 x) (lb 2 x) (lb 3 x) b s la n lc ka m kc] W fun e w' => e = .returned (.bool false) ∧ Below W.heap.size W w') :
    Calls Tryz.prog 4 #[.int .u64 bits, V10 kd g (lb 0 x) (lb 1 x) (lb 2 x) (lb 3 x) b s la n lc ka m kc, .string name] w fun e w' => e = .returned (.bool true) ∧ Below w.heap.size w w' := by
  have HT := Lib.hid hT; have K1 := Lib.hid k1
  clear hT k1
  go_enter Tryz.func4, Tryz.ntmps4
  go_wp2_with fail
  ((with_reducible refine (K1.out _ (bal (Below.refl _ _) _)).mono ?_); rintro e w1 ⟨rfl, hb⟩)
  have B1 := Lib.hid (btr (bal (Below.refl w.heap.size w) _) hb); have X1 := Row10.keep hb (Row10.new w (.int .i64 kd) (.bool g) (.int .u64 (lb 0 x)) (.int .u64 (lb 1 x)) (.int .u64 (lb 2 x)) (.int .u64 (lb 3 x)) (.int .u64 b) (.string s) (.slice la n lc) (.slice ka m kc))
  clear hb
  obtain ⟨p0, p1, p2, p3, p4, p5, p6, p7, p8, p9⟩ := X1.parts
  have B2 := B1
  clear p0 p1 p2 p3 p4 p5 p6 p7 p8 p9 B1
  go_wp2_with fail
  ((with_reducible refine (told6_true _ (tb_on HT.out B2.out)).mono ?_); rintro e w3 ⟨rfl, hb⟩)
  have B3 := Lib.hid (btr B2.out hb)
  clear hb
  go_wp2
  go_ret
  exact ⟨rfl, B3.out⟩
end Go.Proofs.YtjdogiehcgfmjaaGreatDoor
