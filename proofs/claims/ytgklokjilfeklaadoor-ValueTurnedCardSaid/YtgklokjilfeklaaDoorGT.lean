/-
  TurnedW TurnedK TurnedT TurnedAny, one behind the other: a claim holds at most 60 files.
-/
import Derived.Test.YtgklokjilfeklaaDoorValOrd
import Derived.Test.YtgklokjilfeklaaDoorR6Long
import Derived.Deep.OwnRows
import Derived.Lib.QuietBelow
import Derived.BigQuiet
import Derived.Deep.AppendLies
section
namespace Go.Proofs.YtgklokjilfeklaaDoor
open Go.RowKit Go.Shelf
open Go.Sort (grow)
attribute [local go_sem ↓] eql_nat neq_nat eql_int5 neq_int5

set_option maxRecDepth 100000 in
set_option maxHeartbeats 4000000 in
theorem turned_told1 (kd : Int) (g : Bool) (x0 x1 x2 x3 b : Int) (s : ByteArray) (la : Option Addr) (n lc : Nat) (ka : Option Addr) (m kc : Nat) (i : Int) (w : World) (hT : Tb w)
    (k1 : ∀ W, Below w.heap.size w W → Calls Tryd.prog 9 #[V10 kd g x0 x1 x2 x3 b s la n lc ka m kc] W fun e w' => e = .returned (.bool false) ∧ Below W.heap.size W w') :
    Calls Tryd.prog 5 #[V10 kd g x0 x1 x2 x3 b s la n lc ka m kc, .int .i64 i] w fun e w' => e = .returned (.bool true) ∧ Below w.heap.size w w' := by
  have HT := Lib.hid hT
  have K1 := Lib.hid k1
  clear hT k1
  go_enter Tryd.func5, Tryd.ntmps5
  go_wp2_with fail
  ((with_reducible refine (K1.out _ (bal (Below.refl _ _) _)).mono ?_); rintro e w1 ⟨rfl, hb⟩)
  have B1 := Lib.hid (btr (bal (Below.refl w.heap.size w) _) hb); have X1 := Row10.keep hb (Row10.new w (.int .i64 kd) (.bool g) (.int .u64 x0) (.int .u64 x1) (.int .u64 x2) (.int .u64 x3) (.int .u64 b) (.string s) (.slice la n lc) (.slice ka m kc))
  clear hb
  go_wp2_with (go_at_call 11; ((with_reducible refine (told6_true _ (tb_on HT.out B1.out)).mono ?_); rintro e w99 ⟨rfl, hb⟩))
  go_ret
  exact ⟨rfl, btr B1.out hb⟩
set_option maxRecDepth 100000 in
set_option maxHeartbeats 4000000 in
theorem turned_told2 (kd : Int) (g : Bool) (x0 x1 x2 x3 b : Int) (s : ByteArray) (la : Option Addr) (n lc : Nat) (ka : Option Addr) (m kc : Nat) (i : Int) (w : World) (hT : Tb w) (z : Int) (hz : (z != 0) = true)
    (k1 : ∀ W, Below w.heap.size w W → Calls Tryd.prog 9 #[V10 kd g x0 x1 x2 x3 b s la n lc ka m kc] W fun e w' => e = .returned (.bool true) ∧ Below W.heap.size W w')
    (k2 : ∀ W, Below w.heap.size w W → Calls Tryd.prog 10 #[V10 kd g x0 x1 x2 x3 b s la n lc ka m kc] W fun e w' => e = .returned (.int .i64 z) ∧ Below W.heap.size W w') :
    Calls Tryd.prog 5 #[V10 kd g x0 x1 x2 x3 b s la n lc ka m kc, .int .i64 i] w fun e w' => e = .returned (.bool true) ∧ Below w.heap.size w w' := by
  have HT := Lib.hid hT
  have K1 := Lib.hid k1; have K2 := Lib.hid k2
  clear hT k1 k2
  go_enter Tryd.func5, Tryd.ntmps5
  go_wp2_with fail
  ((with_reducible refine (K1.out _ (bal (Below.refl _ _) _)).mono ?_); rintro e w1 ⟨rfl, hb⟩)
  have B1 := Lib.hid (btr (bal (Below.refl w.heap.size w) _) hb); have X1 := Row10.keep hb (Row10.new w (.int .i64 kd) (.bool g) (.int .u64 x0) (.int .u64 x1) (.int .u64 x2) (.int .u64 x3) (.int .u64 b) (.string s) (.slice la n lc) (.slice ka m kc))
  clear hb
  obtain ⟨p0, p1, p2, p3, p4, p5, p6, p7, p8, p9⟩ := X1.parts
  go_wp2_with fail
  ((with_reducible refine (K2.out _ B1.out).mono ?_); rintro e w2 ⟨rfl, hb⟩)
  have B2 := Lib.hid (btr B1.out hb); have X2 := Row10.keep hb X1
  clear hb B1 X1 p0 p1 p2 p3 p4 p5 p6 p7 p8 p9
  go_wp2_with (go_at_call 11; ((with_reducible refine (told6_true _ (tb_on HT.out B2.out)).mono ?_); rintro e w99 ⟨rfl, hb⟩))
  go_ret
  exact ⟨rfl, btr B2.out hb⟩
set_option maxRecDepth 100000 in
set_option maxHeartbeats 4000000 in
theorem turned_kind (kd : Int) (g : Bool) (x0 x1 x2 x3 b : Int) (s : ByteArray) (la : Option Addr) (n lc : Nat) (ka : Option Addr) (m kc : Nat) (i : Int) (w : World) (hT : Tb w) (hi : IntKind.i64.wrap ((IntKind.u64.wrap i).tmod 6) = 0)
    (k1 : ∀ W, Below w.heap.size w W → Calls Tryd.prog 9 #[V10 kd g x0 x1 x2 x3 b s la n lc ka m kc] W fun e w' => e = .returned (.bool true) ∧ Below W.heap.size W w')
    (k2 : ∀ W, Below w.heap.size w W → Calls Tryd.prog 10 #[V10 kd g x0 x1 x2 x3 b s la n lc ka m kc] W fun e w' => e = .returned (.int .i64 0) ∧ Below W.heap.size W w')
    (k3 : ∀ W, Below w.heap.size w W → Calls Tryd.prog 15 #[V10 9 g x0 x1 x2 x3 b s la n lc ka m kc] W fun e w' => e = .returned (.int .i64 1) ∧ Below W.heap.size W w') :
    Calls Tryd.prog 5 #[V10 kd g x0 x1 x2 x3 b s la n lc ka m kc, .int .i64 i] w fun e w' => e = .returned (.bool true) ∧ Below w.heap.size w w' := by
  have HT := Lib.hid hT
  have K1 := Lib.hid k1; have K2 := Lib.hid k2; have K3 := Lib.hid k3
  clear hT k1 k2 k3
  go_enter Tryd.func5, Tryd.ntmps5
  go_wp2_with fail
  ((with_reducible refine (K1.out _ (bal (Below.refl _ _) _)).mono ?_); rintro e w1 ⟨rfl, hb⟩)
  have B1 := Lib.hid (btr (bal (Below.refl w.heap.size w) _) hb); have X1 := Row10.keep hb (Row10.new w (.int .i64 kd) (.bool g) (.int .u64 x0) (.int .u64 x1) (.int .u64 x2) (.int .u64 x3) (.int .u64 b) (.string s) (.slice la n lc) (.slice ka m kc))
  clear hb
  obtain ⟨p0, p1, p2, p3, p4, p5, p6, p7, p8, p9⟩ := X1.parts
  go_wp2_with fail
  ((with_reducible refine (K2.out _ B1.out).mono ?_); rintro e w2 ⟨rfl, hb⟩)
  have B2 := Lib.hid (btr B1.out hb); have X2 := Row10.keep hb X1
  clear hb B1 X1 p0 p1 p2 p3 p4 p5 p6 p7 p8 p9
  obtain ⟨p0, p1, p2, p3, p4, p5, p6, p7, p8, p9⟩ := X2.parts
  have e0 := fun o => alloc_cell p0 o; have e1 := fun o => alloc_cell p1 o; have e2 := fun o => alloc_cell p2 o; have e3 := fun o => alloc_cell p3 o; have e4 := fun o => alloc_cell p4 o; have e5 := fun o => alloc_cell p5 o; have e6 := fun o => alloc_cell p6 o; have e7 := fun o => alloc_cell p7 o; have e8 := fun o => alloc_cell p8 o; have e9 := fun o => alloc_cell p9 o
  go_wp2_with fail
  ((with_reducible refine (told6_true _ (tb_on HT.out (bal B2.out _))).mono ?_); rintro e w3 ⟨rfl, hb⟩)
  have B3 := Lib.hid (btr (bal B2.out _) hb); have Y3 := Row10.keep hb (Row10.new w2 (.int .i64 9) (.bool g) (.int .u64 x0) (.int .u64 x1) (.int .u64 x2) (.int .u64 x3) (.int .u64 b) (.string s) (.slice la n lc) (.slice ka m kc)); have X3 := Row10.keep hb (Row10.alloc X2 (.cells #[.int .i64 9, .bool g, .int .u64 x0, .int .u64 x1, .int .u64 x2, .int .u64 x3, .int .u64 b, .string s, .slice la n lc, .slice ka m kc] 30))
  clear hb B2 X2 p0 p1 p2 p3 p4 p5 p6 p7 p8 p9 e0 e1 e2 e3 e4 e5 e6 e7 e8 e9
  obtain ⟨p0, p1, p2, p3, p4, p5, p6, p7, p8, p9⟩ := Y3.parts
  go_wp2_with (go_at_call 15; ((with_reducible refine (K3.out _ B3.out).mono ?_); rintro e w9 ⟨rfl, hb⟩))
  go_ret
  exact ⟨rfl, btr B3.out hb⟩
set_option maxRecDepth 100000 in
set_option maxHeartbeats 4000000 in
theorem turned_neg (kd : Int) (g : Bool) (x0 x1 x2 x3 b : Int) (s : ByteArray) (la : Option Addr) (n lc : Nat) (ka : Option Addr) (m kc : Nat) (i : Int) (w : World) (hT : Tb w) (hi : IntKind.i64.wrap ((IntKind.u64.wrap i).tmod 6) = 1) (hk : (kd == 3) = false)
    (k1 : ∀ W, Below w.heap.size w W → Calls Tryd.prog 9 #[V10 kd g x0 x1 x2 x3 b s la n lc ka m kc] W fun e w' => e = .returned (.bool true) ∧ Below W.heap.size W w')
    (k2 : ∀ W, Below w.heap.size w W → Calls Tryd.prog 10 #[V10 kd g x0 x1 x2 x3 b s la n lc ka m kc] W fun e w' => e = .returned (.int .i64 0) ∧ Below W.heap.size W w')
    (k3 : ∀ W, Below w.heap.size w W → Calls Tryd.prog 15 #[V10 kd (!g) x0 x1 x2 x3 b s la n lc ka m kc] W fun e w' => e = .returned (.int .i64 1) ∧ Below W.heap.size W w') :
    Calls Tryd.prog 5 #[V10 kd g x0 x1 x2 x3 b s la n lc ka m kc, .int .i64 i] w fun e w' => e = .returned (.bool true) ∧ Below w.heap.size w w' := by
  have HT := Lib.hid hT
  have K1 := Lib.hid k1; have K2 := Lib.hid k2; have K3 := Lib.hid k3
  clear hT k1 k2 k3
  go_enter Tryd.func5, Tryd.ntmps5
  go_wp2_with fail
  ((with_reducible refine (K1.out _ (bal (Below.refl _ _) _)).mono ?_); rintro e w1 ⟨rfl, hb⟩)
  have B1 := Lib.hid (btr (bal (Below.refl w.heap.size w) _) hb); have X1 := Row10.keep hb (Row10.new w (.int .i64 kd) (.bool g) (.int .u64 x0) (.int .u64 x1) (.int .u64 x2) (.int .u64 x3) (.int .u64 b) (.string s) (.slice la n lc) (.slice ka m kc))
  clear hb
  obtain ⟨p0, p1, p2, p3, p4, p5, p6, p7, p8, p9⟩ := X1.parts
  go_wp2_with fail
  ((with_reducible refine (K2.out _ B1.out).mono ?_); rintro e w2 ⟨rfl, hb⟩)
  have B2 := Lib.hid (btr B1.out hb); have X2 := Row10.keep hb X1
  clear hb B1 X1 p0 p1 p2 p3 p4 p5 p6 p7 p8 p9
  obtain ⟨p0, p1, p2, p3, p4, p5, p6, p7, p8, p9⟩ := X2.parts
  have e0 := fun o => alloc_cell p0 o; have e1 := fun o => alloc_cell p1 o; have e2 := fun o => alloc_cell p2 o; have e3 := fun o => alloc_cell p3 o; have e4 := fun o => alloc_cell p4 o; have e5 := fun o => alloc_cell p5 o; have e6 := fun o => alloc_cell p6 o; have e7 := fun o => alloc_cell p7 o; have e8 := fun o => alloc_cell p8 o; have e9 := fun o => alloc_cell p9 o
  go_wp2_with fail
  ((with_reducible refine (told6_true _ (tb_on HT.out (bal B2.out _))).mono ?_); rintro e w3 ⟨rfl, hb⟩)
  have B3 := Lib.hid (btr (bal B2.out _) hb); have Y3 := Row10.keep hb (Row10.new w2 (.int .i64 kd) (.bool (!g)) (.int .u64 x0) (.int .u64 x1) (.int .u64 x2) (.int .u64 x3) (.int .u64 b) (.string s) (.slice la n lc) (.slice ka m kc)); have X3 := Row10.keep hb (Row10.alloc X2 (.cells #[.int .i64 kd, .bool (!g), .int .u64 x0, .int .u64 x1, .int .u64 x2, .int .u64 x3, .int .u64 b, .string s, .slice la n lc, .slice ka m kc] 30))
  clear hb B2 X2 p0 p1 p2 p3 p4 p5 p6 p7 p8 p9 e0 e1 e2 e3 e4 e5 e6 e7 e8 e9
  obtain ⟨p0, p1, p2, p3, p4, p5, p6, p7, p8, p9⟩ := Y3.parts
  go_wp2_with (go_at_call 15; ((with_reducible refine (K3.out _ B3.out).mono ?_); rintro e w9 ⟨rfl, hb⟩))
  go_ret
  exact ⟨rfl, btr B3.out hb⟩
set_option maxRecDepth 100000 in
set_option maxHeartbeats 4000000 in
theorem turned_neg0 (g : Bool) (x0 x1 x2 x3 b : Int) (s : ByteArray) (la : Option Addr) (n lc : Nat) (ka : Option Addr) (m kc : Nat) (i : Int) (w : World) (hT : Tb w) (hi : IntKind.i64.wrap ((IntKind.u64.wrap i).tmod 6) = 1) (hk : eq4 x0 x1 x2 x3 0 0 0 0 = true)
    (k1 : ∀ W, Below w.heap.size w W → Calls Tryd.prog 9 #[V10 3 g x0 x1 x2 x3 b s la n lc ka m kc] W fun e w' => e = .returned (.bool true) ∧ Below W.heap.size W w')
    (k2 : ∀ W, Below w.heap.size w W → Calls Tryd.prog 10 #[V10 3 g x0 x1 x2 x3 b s la n lc ka m kc] W fun e w' => e = .returned (.int .i64 0) ∧ Below W.heap.size W w')
    (k3 : ∀ W, Below w.heap.size w W → Calls Tryd.prog 15 #[V10 3 (!g) x0 x1 x2 x3 b s la n lc ka m kc] W fun e w' => e = .returned (.int .i64 1) ∧ Below W.heap.size W w') :
    Calls Tryd.prog 5 #[V10 3 g x0 x1 x2 x3 b s la n lc ka m kc, .int .i64 i] w fun e w' => e = .returned (.bool true) ∧ Below w.heap.size w w' := by
  have HT := Lib.hid hT
  have K1 := Lib.hid k1; have K2 := Lib.hid k2; have K3 := Lib.hid k3
  clear hT k1 k2 k3
  go_enter Tryd.func5, Tryd.ntmps5
  go_wp2_with fail
  ((with_reducible refine (K1.out _ (bal (Below.refl _ _) _)).mono ?_); rintro e w1 ⟨rfl, hb⟩)
  have B1 := Lib.hid (btr (bal (Below.refl w.heap.size w) _) hb); have X1 := Row10.keep hb (Row10.new w (.int .i64 3) (.bool g) (.int .u64 x0) (.int .u64 x1) (.int .u64 x2) (.int .u64 x3) (.int .u64 b) (.string s) (.slice la n lc) (.slice ka m kc))
  clear hb
  obtain ⟨p0, p1, p2, p3, p4, p5, p6, p7, p8, p9⟩ := X1.parts
  go_wp2_with fail
  ((with_reducible refine (K2.out _ B1.out).mono ?_); rintro e w2 ⟨rfl, hb⟩)
  have B2 := Lib.hid (btr B1.out hb); have X2 := Row10.keep hb X1
  clear hb B1 X1 p0 p1 p2 p3 p4 p5 p6 p7 p8 p9
  obtain ⟨p0, p1, p2, p3, p4, p5, p6, p7, p8, p9⟩ := X2.parts
  have e0 := fun o => alloc_cell p0 o; have e1 := fun o => alloc_cell p1 o; have e2 := fun o => alloc_cell p2 o; have e3 := fun o => alloc_cell p3 o; have e4 := fun o => alloc_cell p4 o; have e5 := fun o => alloc_cell p5 o; have e6 := fun o => alloc_cell p6 o; have e7 := fun o => alloc_cell p7 o; have e8 := fun o => alloc_cell p8 o; have e9 := fun o => alloc_cell p9 o
  go_wp2_with fail
  ((with_reducible refine (told6_true _ (tb_on HT.out (bal B2.out _))).mono ?_); rintro e w3 ⟨rfl, hb⟩)
  have B3 := Lib.hid (btr (bal B2.out _) hb); have Y3 := Row10.keep hb (Row10.new w2 (.int .i64 3) (.bool (!g)) (.int .u64 x0) (.int .u64 x1) (.int .u64 x2) (.int .u64 x3) (.int .u64 b) (.string s) (.slice la n lc) (.slice ka m kc)); have X3 := Row10.keep hb (Row10.alloc X2 (.cells #[.int .i64 3, .bool (!g), .int .u64 x0, .int .u64 x1, .int .u64 x2, .int .u64 x3, .int .u64 b, .string s, .slice la n lc, .slice ka m kc] 30))
  clear hb B2 X2 p0 p1 p2 p3 p4 p5 p6 p7 p8 p9 e0 e1 e2 e3 e4 e5 e6 e7 e8 e9
  obtain ⟨p0, p1, p2, p3, p4, p5, p6, p7, p8, p9⟩ := Y3.parts
  go_wp2_with (go_at_call 15; ((with_reducible refine (K3.out _ B3.out).mono ?_); rintro e w9 ⟨rfl, hb⟩))
  go_ret
  exact ⟨rfl, btr B3.out hb⟩
set_option maxRecDepth 100000 in
set_option maxHeartbeats 4000000 in
theorem turned_neg1 (g : Bool) (x0 x1 x2 x3 b : Int) (s : ByteArray) (la : Option Addr) (n lc : Nat) (ka : Option Addr) (m kc : Nat) (i : Int) (w : World) (hT : Tb w) (hi : IntKind.i64.wrap ((IntKind.u64.wrap i).tmod 6) = 1) (hk : eq4 x0 x1 x2 x3 0 0 0 0 = false)
    (k1 : ∀ W, Below w.heap.size w W → Calls Tryd.prog 9 #[V10 3 g x0 x1 x2 x3 b s la n lc ka m kc] W fun e w' => e = .returned (.bool true) ∧ Below W.heap.size W w')
    (k2 : ∀ W, Below w.heap.size w W → Calls Tryd.prog 10 #[V10 3 g x0 x1 x2 x3 b s la n lc ka m kc] W fun e w' => e = .returned (.int .i64 0) ∧ Below W.heap.size W w')
    (k3 : ∀ W, Below w.heap.size w W → Calls Tryd.prog 15 #[V10 3 (!g) x0 x1 x2 x3 b s la n lc ka m kc] W fun e w' => e = .returned (.int .i64 0) ∧ Below W.heap.size W w')
    (k4 : ∀ W, Below w.heap.size w W → Calls Tryd.prog 13 #[V10 3 g x0 x1 x2 x3 b s la n lc ka m kc, V10 3 (!g) x0 x1 x2 x3 b s la n lc ka m kc] W fun e w' => e = .returned (.bool false) ∧ Below W.heap.size W w') :
    Calls Tryd.prog 5 #[V10 3 g x0 x1 x2 x3 b s la n lc ka m kc, .int .i64 i] w fun e w' => e = .returned (.bool true) ∧ Below w.heap.size w w' := by
  have HT := Lib.hid hT
  have K1 := Lib.hid k1; have K2 := Lib.hid k2; have K3 := Lib.hid k3; have K4 := Lib.hid k4
  clear hT k1 k2 k3 k4
  go_enter Tryd.func5, Tryd.ntmps5
  go_wp2_with fail
  ((with_reducible refine (K1.out _ (bal (Below.refl _ _) _)).mono ?_); rintro e w1 ⟨rfl, hb⟩)
  have B1 := Lib.hid (btr (bal (Below.refl w.heap.size w) _) hb); have X1 := Row10.keep hb (Row10.new w (.int .i64 3) (.bool g) (.int .u64 x0) (.int .u64 x1) (.int .u64 x2) (.int .u64 x3) (.int .u64 b) (.string s) (.slice la n lc) (.slice ka m kc))
  clear hb
  obtain ⟨p0, p1, p2, p3, p4, p5, p6, p7, p8, p9⟩ := X1.parts
  go_wp2_with fail
  ((with_reducible refine (K2.out _ B1.out).mono ?_); rintro e w2 ⟨rfl, hb⟩)
  have B2 := Lib.hid (btr B1.out hb); have X2 := Row10.keep hb X1
  clear hb B1 X1 p0 p1 p2 p3 p4 p5 p6 p7 p8 p9
  obtain ⟨p0, p1, p2, p3, p4, p5, p6, p7, p8, p9⟩ := X2.parts
  have e0 := fun o => alloc_cell p0 o; have e1 := fun o => alloc_cell p1 o; have e2 := fun o => alloc_cell p2 o; have e3 := fun o => alloc_cell p3 o; have e4 := fun o => alloc_cell p4 o; have e5 := fun o => alloc_cell p5 o; have e6 := fun o => alloc_cell p6 o; have e7 := fun o => alloc_cell p7 o; have e8 := fun o => alloc_cell p8 o; have e9 := fun o => alloc_cell p9 o
  go_wp2_with fail
  ((with_reducible refine (told6_true _ (tb_on HT.out (bal B2.out _))).mono ?_); rintro e w3 ⟨rfl, hb⟩)
  have B3 := Lib.hid (btr (bal B2.out _) hb); have Y3 := Row10.keep hb (Row10.new w2 (.int .i64 3) (.bool (!g)) (.int .u64 x0) (.int .u64 x1) (.int .u64 x2) (.int .u64 x3) (.int .u64 b) (.string s) (.slice la n lc) (.slice ka m kc)); have X3 := Row10.keep hb (Row10.alloc X2 (.cells #[.int .i64 3, .bool (!g), .int .u64 x0, .int .u64 x1, .int .u64 x2, .int .u64 x3, .int .u64 b, .string s, .slice la n lc, .slice ka m kc] 30))
  clear hb B2 X2 p0 p1 p2 p3 p4 p5 p6 p7 p8 p9 e0 e1 e2 e3 e4 e5 e6 e7 e8 e9
  obtain ⟨p0, p1, p2, p3, p4, p5, p6, p7, p8, p9⟩ := Y3.parts
  go_wp2_with fail
  ((with_reducible refine (K3.out _ B3.out).mono ?_); rintro e w8 ⟨rfl, hb⟩)
  have B8 := Lib.hid (btr B3.out hb); have Y8 := Row10.keep hb Y3; have X8 := Row10.keep hb X3
  clear hb p0 p1 p2 p3 p4 p5 p6 p7 p8 p9
  obtain ⟨p0, p1, p2, p3, p4, p5, p6, p7, p8, p9⟩ := Y8.parts
  obtain ⟨q0, q1, q2, q3, q4, q5, q6, q7, q8, q9⟩ := X8.parts
  go_wp2_with (go_at_call 13; ((with_reducible refine (K4.out _ B8.out).mono ?_); rintro e w9 ⟨rfl, hb⟩))
  go_ret
  exact ⟨rfl, btr B8.out hb⟩
set_option maxRecDepth 100000 in
set_option maxHeartbeats 4000000 in
theorem turned_bits (kd : Int) (g : Bool) (x0 x1 x2 x3 b : Int) (s : ByteArray) (la : Option Addr) (n lc : Nat) (ka : Option Addr) (m kc : Nat) (i : Int) (w : World) (hT : Tb w) (hi : IntKind.i64.wrap ((IntKind.u64.wrap i).tmod 6) = 2) (hk : (kd == 4) = false)
    (k1 : ∀ W, Below w.heap.size w W → Calls Tryd.prog 9 #[V10 kd g x0 x1 x2 x3 b s la n lc ka m kc] W fun e w' => e = .returned (.bool true) ∧ Below W.heap.size W w')
    (k2 : ∀ W, Below w.heap.size w W → Calls Tryd.prog 10 #[V10 kd g x0 x1 x2 x3 b s la n lc ka m kc] W fun e w' => e = .returned (.int .i64 0) ∧ Below W.heap.size W w')
    (k3 : ∀ W, Below w.heap.size w W → Calls Tryd.prog 15 #[V10 kd g x0 x1 x2 x3 2 s la n lc ka m kc] W fun e w' => e = .returned (.int .i64 1) ∧ Below W.heap.size W w') :
    Calls Tryd.prog 5 #[V10 kd g x0 x1 x2 x3 b s la n lc ka m kc, .int .i64 i] w fun e w' => e = .returned (.bool true) ∧ Below w.heap.size w w' := by
  have HT := Lib.hid hT
  have K1 := Lib.hid k1; have K2 := Lib.hid k2; have K3 := Lib.hid k3
  clear hT k1 k2 k3
  go_enter Tryd.func5, Tryd.ntmps5
  go_wp2_with fail
  ((with_reducible refine (K1.out _ (bal (Below.refl _ _) _)).mono ?_); rintro e w1 ⟨rfl, hb⟩)
  have B1 := Lib.hid (btr (bal (Below.refl w.heap.size w) _) hb); have X1 := Row10.keep hb (Row10.new w (.int .i64 kd) (.bool g) (.int .u64 x0) (.int .u64 x1) (.int .u64 x2) (.int .u64 x3) (.int .u64 b) (.string s) (.slice la n lc) (.slice ka m kc))
  clear hb
  obtain ⟨p0, p1, p2, p3, p4, p5, p6, p7, p8, p9⟩ := X1.parts
  go_wp2_with fail
  ((with_reducible refine (K2.out _ B1.out).mono ?_); rintro e w2 ⟨rfl, hb⟩)
  have B2 := Lib.hid (btr B1.out hb); have X2 := Row10.keep hb X1
  clear hb B1 X1 p0 p1 p2 p3 p4 p5 p6 p7 p8 p9
  obtain ⟨p0, p1, p2, p3, p4, p5, p6, p7, p8, p9⟩ := X2.parts
  have e0 := fun o => alloc_cell p0 o; have e1 := fun o => alloc_cell p1 o; have e2 := fun o => alloc_cell p2 o; have e3 := fun o => alloc_cell p3 o; have e4 := fun o => alloc_cell p4 o; have e5 := fun o => alloc_cell p5 o; have e6 := fun o => alloc_cell p6 o; have e7 := fun o => alloc_cell p7 o; have e8 := fun o => alloc_cell p8 o; have e9 := fun o => alloc_cell p9 o
  go_wp2_with fail
  ((with_reducible refine (told6_true _ (tb_on HT.out (bal B2.out _))).mono ?_); rintro e w3 ⟨rfl, hb⟩)
  have B3 := Lib.hid (btr (bal B2.out _) hb); have Y3 := Row10.keep hb (Row10.new w2 (.int .i64 kd) (.bool g) (.int .u64 x0) (.int .u64 x1) (.int .u64 x2) (.int .u64 x3) (.int .u64 2) (.string s) (.slice la n lc) (.slice ka m kc)); have X3 := Row10.keep hb (Row10.alloc X2 (.cells #[.int .i64 kd, .bool g, .int .u64 x0, .int .u64 x1, .int .u64 x2, .int .u64 x3, .int .u64 2, .string s, .slice la n lc, .slice ka m kc] 30))
  clear hb B2 X2 p0 p1 p2 p3 p4 p5 p6 p7 p8 p9 e0 e1 e2 e3 e4 e5 e6 e7 e8 e9
  obtain ⟨p0, p1, p2, p3, p4, p5, p6, p7, p8, p9⟩ := Y3.parts
  go_wp2_with (go_at_call 15; ((with_reducible refine (K3.out _ B3.out).mono ?_); rintro e w9 ⟨rfl, hb⟩))
  go_ret
  exact ⟨rfl, btr B3.out hb⟩
set_option maxRecDepth 100000 in
set_option maxHeartbeats 4000000 in
theorem turned_bits4 (g : Bool) (x0 x1 x2 x3 b : Int) (s : ByteArray) (la : Option Addr) (n lc : Nat) (ka : Option Addr) (m kc : Nat) (i : Int) (w : World) (hT : Tb w) (hi : IntKind.i64.wrap ((IntKind.u64.wrap i).tmod 6) = 2)
    (k1 : ∀ W, Below w.heap.size w W → Calls Tryd.prog 9 #[V10 4 g x0 x1 x2 x3 b s la n lc ka m kc] W fun e w' => e = .returned (.bool true) ∧ Below W.heap.size W w')
    (k2 : ∀ W, Below w.heap.size w W → Calls Tryd.prog 10 #[V10 4 g x0 x1 x2 x3 b s la n lc ka m kc] W fun e w' => e = .returned (.int .i64 0) ∧ Below W.heap.size W w')
    (k3 : ∀ W, Below w.heap.size w W → Calls Tryd.prog 15 #[V10 4 g x0 x1 x2 x3 2 s la n lc ka m kc] W fun e w' => e = .returned (.int .i64 0) ∧ Below W.heap.size W w')
    (k4 : ∀ W, Below w.heap.size w W → Calls Tryd.prog 17 #[.int .u64 2] W fun e w' => e = .returned (.bool true) ∧ Below W.heap.size W w') :
    Calls Tryd.prog 5 #[V10 4 g x0 x1 x2 x3 b s la n lc ka m kc, .int .i64 i] w fun e w' => e = .returned (.bool true) ∧ Below w.heap.size w w' := by
  have HT := Lib.hid hT
  have K1 := Lib.hid k1; have K2 := Lib.hid k2; have K3 := Lib.hid k3; have K4 := Lib.hid k4
  clear hT k1 k2 k3 k4
  go_enter Tryd.func5, Tryd.ntmps5
  go_wp2_with fail
  ((with_reducible refine (K1.out _ (bal (Below.refl _ _) _)).mono ?_); rintro e w1 ⟨rfl, hb⟩)
  have B1 := Lib.hid (btr (bal (Below.refl w.heap.size w) _) hb); have X1 := Row10.keep hb (Row10.new w (.int .i64 4) (.bool g) (.int .u64 x0) (.int .u64 x1) (.int .u64 x2) (.int .u64 x3) (.int .u64 b) (.string s) (.slice la n lc) (.slice ka m kc))
  clear hb
  obtain ⟨p0, p1, p2, p3, p4, p5, p6, p7, p8, p9⟩ := X1.parts
  go_wp2_with fail
  ((with_reducible refine (K2.out _ B1.out).mono ?_); rintro e w2 ⟨rfl, hb⟩)
  have B2 := Lib.hid (btr B1.out hb); have X2 := Row10.keep hb X1
  clear hb B1 X1 p0 p1 p2 p3 p4 p5 p6 p7 p8 p9
  obtain ⟨p0, p1, p2, p3, p4, p5, p6, p7, p8, p9⟩ := X2.parts
  have e0 := fun o => alloc_cell p0 o; have e1 := fun o => alloc_cell p1 o; have e2 := fun o => alloc_cell p2 o; have e3 := fun o => alloc_cell p3 o; have e4 := fun o => alloc_cell p4 o; have e5 := fun o => alloc_cell p5 o; have e6 := fun o => alloc_cell p6 o; have e7 := fun o => alloc_cell p7 o; have e8 := fun o => alloc_cell p8 o; have e9 := fun o => alloc_cell p9 o
  go_wp2_with fail
  ((with_reducible refine (K4.out _ (bal B2.out _)).mono ?_); rintro e w3 ⟨rfl, hb⟩)
  have B3 := Lib.hid (btr (bal B2.out _) hb); have Y3 := Row10.keep hb (Row10.new w2 (.int .i64 4) (.bool g) (.int .u64 x0) (.int .u64 x1) (.int .u64 x2) (.int .u64 x3) (.int .u64 2) (.string s) (.slice la n lc) (.slice ka m kc)); have X3 := Row10.keep hb (Row10.alloc X2 (.cells #[.int .i64 4, .bool g, .int .u64 x0, .int .u64 x1, .int .u64 x2, .int .u64 x3, .int .u64 2, .string s, .slice la n lc, .slice ka m kc] 30))
  clear hb B2 X2 p0 p1 p2 p3 p4 p5 p6 p7 p8 p9 e0 e1 e2 e3 e4 e5 e6 e7 e8 e9
  obtain ⟨p0, p1, p2, p3, p4, p5, p6, p7, p8, p9⟩ := X3.parts
  go_wp2_with fail
  ((with_reducible refine (told6_true _ (tb_on HT.out B3.out)).mono ?_); rintro e w4 ⟨rfl, hb⟩)
  have B4 := Lib.hid (btr B3.out hb); have Y4 := Row10.keep hb Y3; have X4 := Row10.keep hb X3
  clear hb B3 X3 Y3 p0 p1 p2 p3 p4 p5 p6 p7 p8 p9
  obtain ⟨p0, p1, p2, p3, p4, p5, p6, p7, p8, p9⟩ := Y4.parts
  go_wp2_with (go_at_call 15; ((with_reducible refine (K3.out _ B4.out).mono ?_); rintro e w9 ⟨rfl, hb⟩))
  go_ret
  exact ⟨rfl, btr B4.out hb⟩
set_option maxRecDepth 100000 in
set_option maxHeartbeats 4000000 in
theorem turned_text (kd : Int) (g : Bool) (x0 x1 x2 x3 b : Int) (s : ByteArray) (la : Option Addr) (n lc : Nat) (ka : Option Addr) (m kc : Nat) (i : Int) (w : World) (hT : Tb w) (hi : IntKind.i64.wrap ((IntKind.u64.wrap i).tmod 6) = 3) (hk : (kd == 6) = false)
    (k1 : ∀ W, Below w.heap.size w W → Calls Tryd.prog 9 #[V10 kd g x0 x1 x2 x3 b s la n lc ka m kc] W fun e w' => e = .returned (.bool true) ∧ Below W.heap.size W w')
    (k2 : ∀ W, Below w.heap.size w W → Calls Tryd.prog 10 #[V10 kd g x0 x1 x2 x3 b s la n lc ka m kc] W fun e w' => e = .returned (.int .i64 0) ∧ Below W.heap.size W w')
    (k3 : ∀ W, Below w.heap.size w W → Calls Tryd.prog 15 #[V10 kd g x0 x1 x2 x3 b ⟨#[255]⟩ la n lc ka m kc] W fun e w' => e = .returned (.int .i64 1) ∧ Below W.heap.size W w') :
    Calls Tryd.prog 5 #[V10 kd g x0 x1 x2 x3 b s la n lc ka m kc, .int .i64 i] w fun e w' => e = .returned (.bool true) ∧ Below w.heap.size w w' := by
  have HT := Lib.hid hT
  have K1 := Lib.hid k1; have K2 := Lib.hid k2; have K3 := Lib.hid k3
  clear hT k1 k2 k3
  go_enter Tryd.func5, Tryd.ntmps5
  go_wp2_with fail
  ((with_reducible refine (K1.out _ (bal (Below.refl _ _) _)).mono ?_); rintro e w1 ⟨rfl, hb⟩)
  have B1 := Lib.hid (btr (bal (Below.refl w.heap.size w) _) hb); have X1 := Row10.keep hb (Row10.new w (.int .i64 kd) (.bool g) (.int .u64 x0) (.int .u64 x1) (.int .u64 x2) (.int .u64 x3) (.int .u64 b) (.string s) (.slice la n lc) (.slice ka m kc))
  clear hb
  obtain ⟨p0, p1, p2, p3, p4, p5, p6, p7, p8, p9⟩ := X1.parts
  go_wp2_with fail
  ((with_reducible refine (K2.out _ B1.out).mono ?_); rintro e w2 ⟨rfl, hb⟩)
  have B2 := Lib.hid (btr B1.out hb); have X2 := Row10.keep hb X1
  clear hb B1 X1 p0 p1 p2 p3 p4 p5 p6 p7 p8 p9
  obtain ⟨p0, p1, p2, p3, p4, p5, p6, p7, p8, p9⟩ := X2.parts
  have e0 := fun o => alloc_cell p0 o; have e1 := fun o => alloc_cell p1 o; have e2 := fun o => alloc_cell p2 o; have e3 := fun o => alloc_cell p3 o; have e4 := fun o => alloc_cell p4 o; have e5 := fun o => alloc_cell p5 o; have e6 := fun o => alloc_cell p6 o; have e7 := fun o => alloc_cell p7 o; have e8 := fun o => alloc_cell p8 o; have e9 := fun o => alloc_cell p9 o
  go_wp2_with fail
  ((with_reducible refine (told6_true _ (tb_on HT.out (bal B2.out _))).mono ?_); rintro e w3 ⟨rfl, hb⟩)
  have B3 := Lib.hid (btr (bal B2.out _) hb); have Y3 := Row10.keep hb (Row10.new w2 (.int .i64 kd) (.bool g) (.int .u64 x0) (.int .u64 x1) (.int .u64 x2) (.int .u64 x3) (.int .u64 b) (.string ⟨#[255]⟩) (.slice la n lc) (.slice ka m kc)); have X3 := Row10.keep hb (Row10.alloc X2 (.cells #[.int .i64 kd, .bool g, .int .u64 x0, .int .u64 x1, .int .u64 x2, .int .u64 x3, .int .u64 b, .string ⟨#[255]⟩, .slice la n lc, .slice ka m kc] 30))
  clear hb B2 X2 p0 p1 p2 p3 p4 p5 p6 p7 p8 p9 e0 e1 e2 e3 e4 e5 e6 e7 e8 e9
  obtain ⟨p0, p1, p2, p3, p4, p5, p6, p7, p8, p9⟩ := Y3.parts
  go_wp2_with (go_at_call 15; ((with_reducible refine (K3.out _ B3.out).mono ?_); rintro e w9 ⟨rfl, hb⟩))
  go_ret
  exact ⟨rfl, btr B3.out hb⟩
set_option maxRecDepth 100000 in
set_option maxHeartbeats 4000000 in
theorem turned_text6 (g : Bool) (x0 x1 x2 x3 b : Int) (s : ByteArray) (la : Option Addr) (n lc : Nat) (ka : Option Addr) (m kc : Nat) (i : Int) (w : World) (hT : Tb w) (hi : IntKind.i64.wrap ((IntKind.u64.wrap i).tmod 6) = 3)
    (k1 : ∀ W, Below w.heap.size w W → Calls Tryd.prog 9 #[V10 6 g x0 x1 x2 x3 b s la n lc ka m kc] W fun e w' => e = .returned (.bool true) ∧ Below W.heap.size W w')
    (k2 : ∀ W, Below w.heap.size w W → Calls Tryd.prog 10 #[V10 6 g x0 x1 x2 x3 b s la n lc ka m kc] W fun e w' => e = .returned (.int .i64 0) ∧ Below W.heap.size W w')
    (k3 : ∀ W, Below w.heap.size w W → Calls Tryd.prog 15 #[V10 6 g x0 x1 x2 x3 b ⟨#[255]⟩ la n lc ka m kc] W fun e w' => e = .returned (.int .i64 0) ∧ Below W.heap.size W w') :
    Calls Tryd.prog 5 #[V10 6 g x0 x1 x2 x3 b s la n lc ka m kc, .int .i64 i] w fun e w' => e = .returned (.bool true) ∧ Below w.heap.size w w' := by
  have HT := Lib.hid hT
  have K1 := Lib.hid k1; have K2 := Lib.hid k2; have K3 := Lib.hid k3
  clear hT k1 k2 k3
  go_enter Tryd.func5, Tryd.ntmps5
  go_wp2_with fail
  ((with_reducible refine (K1.out _ (bal (Below.refl _ _) _)).mono ?_); rintro e w1 ⟨rfl, hb⟩)
  have B1 := Lib.hid (btr (bal (Below.refl w.heap.size w) _) hb); have X1 := Row10.keep hb (Row10.new w (.int .i64 6) (.bool g) (.int .u64 x0) (.int .u64 x1) (.int .u64 x2) (.int .u64 x3) (.int .u64 b) (.string s) (.slice la n lc) (.slice ka m kc))
  clear hb
  obtain ⟨p0, p1, p2, p3, p4, p5, p6, p7, p8, p9⟩ := X1.parts
  go_wp2_with fail
  ((with_reducible refine (K2.out _ B1.out).mono ?_); rintro e w2 ⟨rfl, hb⟩)
  have B2 := Lib.hid (btr B1.out hb); have X2 := Row10.keep hb X1
  clear hb B1 X1 p0 p1 p2 p3 p4 p5 p6 p7 p8 p9
  obtain ⟨p0, p1, p2, p3, p4, p5, p6, p7, p8, p9⟩ := X2.parts
  have e0 := fun o => alloc_cell p0 o; have e1 := fun o => alloc_cell p1 o; have e2 := fun o => alloc_cell p2 o; have e3 := fun o => alloc_cell p3 o; have e4 := fun o => alloc_cell p4 o; have e5 := fun o => alloc_cell p5 o; have e6 := fun o => alloc_cell p6 o; have e7 := fun o => alloc_cell p7 o; have e8 := fun o => alloc_cell p8 o; have e9 := fun o => alloc_cell p9 o
  go_wp2_with fail
  ((with_reducible refine (told6_true _ (tb_on HT.out (bal B2.out _))).mono ?_); rintro e w3 ⟨rfl, hb⟩)
  have B3 := Lib.hid (btr (bal B2.out _) hb); have Y3 := Row10.keep hb (Row10.new w2 (.int .i64 6) (.bool g) (.int .u64 x0) (.int .u64 x1) (.int .u64 x2) (.int .u64 x3) (.int .u64 b) (.string ⟨#[255]⟩) (.slice la n lc) (.slice ka m kc)); have X3 := Row10.keep hb (Row10.alloc X2 (.cells #[.int .i64 6, .bool g, .int .u64 x0, .int .u64 x1, .int .u64 x2, .int .u64 x3, .int .u64 b, .string ⟨#[255]⟩, .slice la n lc, .slice ka m kc] 30))
  clear hb B2 X2 p0 p1 p2 p3 p4 p5 p6 p7 p8 p9 e0 e1 e2 e3 e4 e5 e6 e7 e8 e9
  obtain ⟨p0, p1, p2, p3, p4, p5, p6, p7, p8, p9⟩ := Y3.parts
  go_wp2_with (go_at_call 15; ((with_reducible refine (K3.out _ B3.out).mono ?_); rintro e w9 ⟨rfl, hb⟩))
  go_ret
  exact ⟨rfl, btr B3.out hb⟩
end Go.Proofs.YtgklokjilfeklaaDoor
end
section
namespace Go.Proofs.YtgklokjilfeklaaDoor
open Go.RowKit Go.Shelf
open Go.Sort (grow)

theorem info_str : (Tryd.prog.info? 9).map (fun i => (i.zero, i.size, i.bytes)) = some (some (.string ⟨#[]⟩), 1, 16) := by kernel_rfl
theorem und_strs : Tryd.prog.underlying 28 = some (.slice 9) := by kernel_rfl
theorem info_at {t : TypeId} {z : Value} {n b : Nat} (h : (Tryd.prog.info? t).map (fun i => (i.zero, i.size, i.bytes)) = some (some z, n, b)) : ∃ i, Tryd.prog.info? t = some i ∧ i.zero = some z ∧ i.size = n ∧ i.bytes = b := by
  cases hi : Tryd.prog.info? t with
  | none => rw [hi] at h; cases h
  | some i => rw [hi] at h; simp at h; exact ⟨i, rfl, h.1, h.2.1, h.2.2⟩
theorem own_empty6 (W : World) (e : TypeId) (n H : Nat) (h : W.heap.size = H) : (W.alloc (.cells #[] e)).ownsRow H e n (.slice (some ⟨H, 0, none⟩) 0 0) 0 [] := by
  subst h
  exact ⟨by simp, .inr ⟨W.heap.size, 0, #[], rfl, Nat.le_refl _, heap_alloc_new W _, Nat.le_refl _, by decide, by simp, by simp⟩⟩
theorem own_base6 {W : World} {base : Nat} {e : TypeId} {size g n c : Nat} {xs : List Value} (h : W.ownsRow base e size (.slice (some ⟨g, 0, none⟩) n c) n xs) : base ≤ g := (h.lt g rfl).1
theorem own_set6 {W : World} {base : Nat} {e : TypeId} {size g n c : Nat} {xs : List Value} (h : W.ownsRow base e size (.slice (some ⟨g, 0, none⟩) n c) n xs) {b i : Nat} (hne : g ≠ b) (u : Value) : (W.setCell ⟨b, i, none⟩ u).ownsRow base e size (.slice (some ⟨g, 0, none⟩) n c) n xs := by
  obtain ⟨h1, h2⟩ := h
  refine ⟨h1, ?_⟩
  rcases h2 with ⟨h3, _⟩ | ⟨g', cap, cur, h3, h4, h5, h6⟩
  · cases h3
  · cases h3
    exact .inr ⟨g, c, cur, rfl, h4, (Below.heap_setCell W ⟨b, i, none⟩ u g hne).trans h5, h6⟩
theorem own_keep6 {W W' : World} {base : Nat} {e : TypeId} {size g n c : Nat} {xs : List Value} (h : W.ownsRow base e size (.slice (some ⟨g, 0, none⟩) n c) n xs) (hb : Below W.heap.size W W') : W'.ownsRow base e size (.slice (some ⟨g, 0, none⟩) n c) n xs := by
  have hlt := (h.lt g rfl).2
  obtain ⟨h1, h2⟩ := h
  refine ⟨h1, ?_⟩
  rcases h2 with ⟨h3, _⟩ | ⟨g', cap, cur, h3, h4, h5, h6⟩
  · cases h3
  · cases h3
    exact .inr ⟨g, c, cur, rfl, h4, (hb.block g hlt).trans h5, h6⟩
theorem own_mono6 {W : World} {base base' : Nat} {e : TypeId} {size g n c : Nat} {xs : List Value} (h : W.ownsRow base e size (.slice (some ⟨g, 0, none⟩) n c) n xs) (hb : base' ≤ base) : W.ownsRow base' e size (.slice (some ⟨g, 0, none⟩) n c) n xs := by
  obtain ⟨h1, h2⟩ := h
  refine ⟨h1, ?_⟩
  rcases h2 with ⟨h3, _⟩ | ⟨g', cap, cur, h3, h4, h5, h6⟩
  · cases h3
  · cases h3
    exact .inr ⟨g, c, cur, rfl, Nat.le_trans hb h4, h5, h6⟩
theorem Row10.set9 {W : World} {b : Nat} {v0 v1 v2 v3 v4 v5 v6 v7 v8 v9 : Value} (h : Row10 W b v0 v1 v2 v3 v4 v5 v6 v7 v8 v9) (u : Value) : Row10 (W.setCell ⟨b, 9, none⟩ u) b v0 v1 v2 v3 v4 v5 v6 v7 v8 u := by
  have := heap_setCell_same W b 9 _ _ u h
  simpa [Row10] using this
theorem Row10.set8 {W : World} {b : Nat} {v0 v1 v2 v3 v4 v5 v6 v7 v8 v9 : Value} (h : Row10 W b v0 v1 v2 v3 v4 v5 v6 v7 v8 v9) (u : Value) : Row10 (W.setCell ⟨b, 8, none⟩ u) b v0 v1 v2 v3 v4 v5 v6 v7 u v9 := by
  have := heap_setCell_same W b 8 _ _ u h
  simpa [Row10] using this
theorem Row10.grown {W W' : World} {r : Option Nat} {b : Nat} {v0 v1 v2 v3 v4 v5 v6 v7 v8 v9 : Value} (h : Row10 W b v0 v1 v2 v3 v4 v5 v6 v7 v8 v9) (hg : W.grownBy W' r) (hne : some b ≠ r) : Row10 W' b v0 v1 v2 v3 v4 v5 v6 v7 v8 v9 :=
  (hg.block b h.lt hne).trans h
theorem cell_of_str (W : World) (v : Value) (T : TypeId) : ∀ j u, [v][j]? = some u → (W.alloc (.cells #[v] T)).cell? ((⟨W.heap.size, 0, none⟩ : Addr).add j) = some u := by
  intro j u hu
  match j, hu with
  | 0, hu => simp at hu; subst hu; simp [Addr.add]
theorem one_strs (l : List ByteArray) : ∀ u ∈ l.map Value.string, u.oneCell' = true := by
  intro u hu
  obtain ⟨s, _, rfl⟩ := List.mem_map.1 hu
  rfl
theorem keys_news {W : World} {ka : Option Addr} {keys : List ByteArray} {kb koff : Nat} (h : KeysL W ka keys kb koff) : ∀ (j : Nat) (u : Value), (keys.map Value.string)[j]? = some u → W.cell? ((⟨kb, koff, none⟩ : Addr).add j) = some u := by
  intro j u hu
  rw [List.getElem?_map] at hu
  cases hk : keys[j]? with
  | none => rw [hk] at hu; cases hu
  | some s =>
    rw [hk] at hu
    simp at hu
    subst hu
    have := h.cells j s hk
    have e : (⟨kb, koff, none⟩ : Addr).add j = ⟨kb, koff + j, none⟩ := by unfold Addr.add; split <;> simp_all
    rw [e]; exact this


theorem und_vals : Tryd.prog.underlying 27 = some (.slice 30) := by kernel_rfl
theorem info_val : (Tryd.prog.info? 30).map (fun i => (i.zero, i.size, i.bytes)) = some (some (V10 0 false 0 0 0 0 0 ⟨#[]⟩ none 0 0 none 0 0), 10, 120) := by kernel_rfl
def newsV (l : List VT) : List Value := l.flatMap VT.cells
theorem newsV_length (l : List VT) : (newsV l).length = l.length * 10 := by
  unfold newsV
  induction l with
  | nil => rfl
  | cons t l ih => rw [List.flatMap_cons, List.length_append, ih, VT.cells_length, List.length_cons]; omega
theorem newsV_one (l : List VT) : ∀ u ∈ newsV l, u.oneCell' = true := by
  intro u hu
  unfold newsV at hu
  obtain ⟨t, _, h⟩ := List.mem_flatMap.1 hu
  simp only [VT.cells, List.mem_cons, List.not_mem_nil, or_false] at h
  rcases h with rfl | rfl | rfl | rfl | rfl | rfl | rfl | rfl | rfl | rfl <;> rfl
theorem addr_add (b p j : Nat) : (⟨b, p, none⟩ : Addr).add j = ⟨b, p + j, none⟩ := by unfold Addr.add; split <;> simp_all
theorem newsV_at {W : World} (bb : Nat) : ∀ (l : List VT) (off : Nat), (∀ (k : Nat) (t : VT), l[k]? = some t → Cells10 W bb (off + k * 10) t) → ∀ (j : Nat) (u : Value), (newsV l)[j]? = some u → W.cell? ⟨bb, off + j, none⟩ = some u
  | [], off, h, j, u, hu => by simp [newsV] at hu
  | t :: l, off, h, j, u, hu => by
    have e : newsV (t :: l) = t.cells ++ newsV l := by unfold newsV; rw [List.flatMap_cons]
    rw [e] at hu
    by_cases hj : j < 10
    · rw [List.getElem?_append_left (by rw [VT.cells_length]; exact hj)] at hu
      have := h 0 t rfl j u hu
      rwa [show off + 0 * 10 + j = off + j by omega] at this
    · rw [List.getElem?_append_right (by rw [VT.cells_length]; omega), VT.cells_length] at hu
      have := newsV_at bb l (off + 10) (fun k t' hk => by
        have := h (k + 1) t' (by simpa using hk)
        rwa [show off + (k + 1) * 10 = off + 10 + k * 10 by omega] at this) (j - 10) u hu
      rwa [show off + 10 + (j - 10) = off + j by omega] at this
theorem kids_news {W : World} {la : Option Addr} {kids : List VT} {bb off : Nat} (h : Kids W la kids bb off) : ∀ (j : Nat) (u : Value), (newsV kids)[j]? = some u → W.cell? ((⟨bb, off, none⟩ : Addr).add j) = some u := by
  intro j u hu
  rw [addr_add]
  exact newsV_at bb kids off h.cells j u hu
theorem news_new (W : World) (cs : Array Value) (T : TypeId) : ∀ j u, cs.toList[j]? = some u → (W.alloc (.cells cs T)).cell? ((⟨W.heap.size, 0, none⟩ : Addr).add j) = some u :=
  World.news_of_block (heap_alloc_new W _)

theorem cell_set_other {W : World} {a b i j : Nat} {v : Value} (h : W.cell? ⟨a, j, none⟩ = some v) (hne : a ≠ b) (u : Value) : (W.setCell ⟨b, i, none⟩ u).cell? ⟨a, j, none⟩ = some v :=
  (World.cell?_of_block (Below.heap_setCell W ⟨b, i, none⟩ u a hne)).trans h
theorem cell_of_str0 (W : World) (v : Value) (T : TypeId) (H : Nat) (h : W.heap.size = H) : ∀ j u, [v][j]? = some u → (W.alloc (.cells #[v] T)).cell? ((⟨H, 0, none⟩ : Addr).add j) = some u := by
  subst h; exact cell_of_str W v T
theorem news_new0 (W : World) (cs : Array Value) (T : TypeId) (H : Nat) (h : W.heap.size = H) : ∀ j u, cs.toList[j]? = some u → (W.alloc (.cells cs T)).cell? ((⟨H, 0, none⟩ : Addr).add j) = some u := by
  subst h; exact news_new W cs T
set_option maxRecDepth 100000 in
set_option maxHeartbeats 4000000 in
theorem turned_keys0 (kd : Int) (g : Bool) (x0 x1 x2 x3 b : Int) (s : ByteArray) (la : Option Addr) (n lc : Nat) (kc : Nat) (ka : Option Addr) (i : Int) (w : World) (hT : Tb w) (hi : IntKind.i64.wrap ((IntKind.u64.wrap i).tmod 6) = 4) 
    (k1 : ∀ W, Below w.heap.size w W → Calls Tryd.prog 9 #[V10 kd g x0 x1 x2 x3 b s la n lc ka 0 kc] W fun e w' => e = .returned (.bool true) ∧ Below W.heap.size W w')
    (k2 : ∀ W, Below w.heap.size w W → Calls Tryd.prog 10 #[V10 kd g x0 x1 x2 x3 b s la n lc ka 0 kc] W fun e w' => e = .returned (.int .i64 0) ∧ Below W.heap.size W w')
    (k3 : ∀ W gb cap, W.ownsRow w.heap.size 9 1 (.slice (some ⟨gb, 0, none⟩) 1 cap) 1 ([.string ⟨#[126, 126, 126, 126, 126, 126, 126, 126]⟩]) → Below w.heap.size w W → Calls Tryd.prog 15 #[V10 kd g x0 x1 x2 x3 b s la n lc (some ⟨gb, 0, none⟩) 1 cap] W fun e w' => e = .returned (.int .i64 1) ∧ Below W.heap.size W w') :
    Calls Tryd.prog 5 #[V10 kd g x0 x1 x2 x3 b s la n lc ka 0 kc, .int .i64 i] w fun e w' => e = .returned (.bool true) ∧ Below w.heap.size w w' := by
  obtain ⟨i0, hi0, hz0, hz1, hz2⟩ := info_at info_str
  have HT := Lib.hid hT; have K1 := Lib.hid k1; have K2 := Lib.hid k2; have K3 := Lib.hid k3
  clear hT k1 k2 k3
  go_enter Tryd.func5, Tryd.ntmps5
  go_wp2_with fail
  ((with_reducible refine (K1.out _ (bal (Below.refl _ _) _)).mono ?_); rintro e w1 ⟨rfl, hb⟩)
  have B1 := Lib.hid (btr (bal (Below.refl w.heap.size w) _) hb); have X1 := Row10.keep hb (Row10.new w (.int .i64 kd) (.bool g) (.int .u64 x0) (.int .u64 x1) (.int .u64 x2) (.int .u64 x3) (.int .u64 b) (.string s) (.slice la n lc) (.slice ka 0 kc))
  clear hb
  obtain ⟨p0, p1, p2, p3, p4, p5, p6, p7, p8, p9⟩ := X1.parts
  go_wp2_with fail
  ((with_reducible refine (K2.out _ B1.out).mono ?_); rintro e w2 ⟨rfl, hb⟩)
  have B2 := Lib.hid (btr B1.out hb); have X2 := Row10.keep hb X1
  clear hb B1 X1 p0 p1 p2 p3 p4 p5 p6 p7 p8 p9
  obtain ⟨p0, p1, p2, p3, p4, p5, p6, p7, p8, p9⟩ := X2.parts
  have e0 := fun o => alloc_cell p0 o
  have f9 := fun o o' => alloc_cell (alloc_cell p9 o) o'
  cases ka
  all_goals
    go_wp2_with (first
      | fail
      | (at_builtin; refine wpList_append_lies _ rfl (.tmp 105) (.tmp 106) 28 rfl (w2.heap.size + 1) 9 i0 (.string ⟨#[]⟩) 1 16 und_strs hi0 hz0 hz1 hz2 rfl (by decide) _ 0 [] rfl (World.ownsRow.alloc (own_empty6 _ _ _ _ (by simp)) _) ⟨w2.heap.size + 1 + 1, 0, none⟩ 1 1 [.string ⟨#[126, 126, 126, 126, 126, 126, 126, 126]⟩] rfl rfl (cell_of_str0 _ _ _ _ (by simp)) (by intro u hu; simp at hu; subst hu; rfl) (by decide) (by unfold maxLen; omega) (by omega) (by simp <;> omega) _ rfl ?_
         intro gc cap2 w4 hown4 hgrow _ _
         try simp only [Nat.zero_add, List.nil_append] at hown4
         have hg4 : World.grownBy _ w4 (some (w2.heap.size + 1)) := hgrow
         have hl4 := X2.lt
         have X4 := Row10.grown (Row10.alloc (Row10.alloc (Row10.alloc X2 _) _) _) hg4 (by simp <;> omega)
         have Y4 := Row10.grown (Row10.alloc (Row10.alloc (Row10.new w2 _ _ _ _ _ _ _ _ _ _) _) _) hg4 (by simp)
         have B4 := Lib.hid (Below.grown (bal (bal (bal B2.out _) _) _) hg4 (bal (bal (bal B2.out _) _) _).size (by intro q hq; cases hq; omega))
         have hgc := own_base6 hown4
         clear hgrow hg4
         obtain ⟨t0, t1, t2, t3, t4, t5, t6, t7, t8, t9⟩ := Y4.parts
         have u9 := Y4.free 9
         have z0 := cell_set_other X4.parts.1 (b := w2.heap.size) (i := 9) (show w.heap.size ≠ w2.heap.size by omega)))
    have OWN5 := own_set6 hown4 (b := w2.heap.size) (i := 9) (by omega) (.slice (some ⟨gc, 0, none⟩) 1 cap2)
    have B5 := Lib.hid (Below.setCell B4.out (p := ⟨w2.heap.size, 9, none⟩) B2.out.size (.slice (some ⟨gc, 0, none⟩) 1 cap2))
    have Y5 := Row10.set9 Y4 (.slice (some ⟨gc, 0, none⟩) 1 cap2)
    have X5 := Row10.set X4 (c := w2.heap.size) (i := 9) (by omega) (.slice (some ⟨gc, 0, none⟩) 1 cap2)
    ((with_reducible refine (told6_true _ (tb_on HT.out B5.out)).mono ?_); rintro e w6 ⟨rfl, hb⟩)
    have B6 := Lib.hid (btr B5.out hb); have Y6 := Row10.keep hb Y5
    have OWN6 := Lib.hid (own_mono6 (own_keep6 OWN5 hb) (show w.heap.size ≤ w2.heap.size + 1 by have := X2.lt; omega))
    clear hb OWN5 Y5 t0 t1 t2 t3 t4 t5 t6 t7 t8 t9 p0 p1 p2 p3 p4 p5 p6 p7 p8 p9 u9 hown4 hgc
    obtain ⟨q0, q1, q2, q3, q4, q5, q6, q7, q8, q9⟩ := Y6.parts
    go_wp2_with (go_at_call 15; ((with_reducible refine (K3.out _ gc cap2 OWN6.out B6.out).mono ?_); rintro e w7 ⟨rfl, hb⟩))
    go_ret
    exact ⟨rfl, btr B6.out hb⟩
set_option maxRecDepth 100000 in
set_option maxHeartbeats 4000000 in
theorem turned_list0 (kd : Int) (g : Bool) (x0 x1 x2 x3 b : Int) (s : ByteArray) (lc : Nat) (ka : Option Addr) (m kc : Nat) (la : Option Addr) (i : Int) (w : World) (hT : Tb w) (hi : IntKind.i64.wrap ((IntKind.u64.wrap i).tmod 6) = 5) (hk : (kd == 7) = false) 
    (k1 : ∀ W, Below w.heap.size w W → Calls Tryd.prog 9 #[V10 kd g x0 x1 x2 x3 b s la 0 lc ka m kc] W fun e w' => e = .returned (.bool true) ∧ Below W.heap.size W w')
    (k2 : ∀ W, Below w.heap.size w W → Calls Tryd.prog 10 #[V10 kd g x0 x1 x2 x3 b s la 0 lc ka m kc] W fun e w' => e = .returned (.int .i64 0) ∧ Below W.heap.size W w')
    (k3 : ∀ W gb cap, W.ownsRow w.heap.size 30 10 (.slice (some ⟨gb, 0, none⟩) 1 cap) 1 ((#[.int .i64 1, .bool false, .int .u64 0, .int .u64 0, .int .u64 0, .int .u64 0, .int .u64 0, .string ⟨#[]⟩, .slice none 0 0, .slice none 0 0] : Array Value).toList) → Below w.heap.size w W → Calls Tryd.prog 15 #[V10 kd g x0 x1 x2 x3 b s (some ⟨gb, 0, none⟩) 1 cap ka m kc] W fun e w' => e = .returned (.int .i64 1) ∧ Below W.heap.size W w') :
    Calls Tryd.prog 5 #[V10 kd g x0 x1 x2 x3 b s la 0 lc ka m kc, .int .i64 i] w fun e w' => e = .returned (.bool true) ∧ Below w.heap.size w w' := by
  obtain ⟨i0, hi0, hz0, hz1, hz2⟩ := info_at info_val
  have HT := Lib.hid hT; have K1 := Lib.hid k1; have K2 := Lib.hid k2; have K3 := Lib.hid k3
  clear hT k1 k2 k3
  go_enter Tryd.func5, Tryd.ntmps5
  go_wp2_with fail
  ((with_reducible refine (K1.out _ (bal (Below.refl _ _) _)).mono ?_); rintro e w1 ⟨rfl, hb⟩)
  have B1 := Lib.hid (btr (bal (Below.refl w.heap.size w) _) hb); have X1 := Row10.keep hb (Row10.new w (.int .i64 kd) (.bool g) (.int .u64 x0) (.int .u64 x1) (.int .u64 x2) (.int .u64 x3) (.int .u64 b) (.string s) (.slice la 0 lc) (.slice ka m kc))
  clear hb
  obtain ⟨p0, p1, p2, p3, p4, p5, p6, p7, p8, p9⟩ := X1.parts
  go_wp2_with fail
  ((with_reducible refine (K2.out _ B1.out).mono ?_); rintro e w2 ⟨rfl, hb⟩)
  have B2 := Lib.hid (btr B1.out hb); have X2 := Row10.keep hb X1
  clear hb B1 X1 p0 p1 p2 p3 p4 p5 p6 p7 p8 p9
  obtain ⟨p0, p1, p2, p3, p4, p5, p6, p7, p8, p9⟩ := X2.parts
  have e0 := fun o => alloc_cell p0 o
  have f8 := fun o o' => alloc_cell (alloc_cell p8 o) o'
  cases la
  all_goals
    go_wp2_with (first
      | fail
      | (at_builtin; refine wpList_append_lies _ rfl (.tmp 23) (.tmp 25) 27 rfl (w2.heap.size + 1) 30 i0 (V10 0 false 0 0 0 0 0 ⟨#[]⟩ none 0 0 none 0 0) 10 120 und_vals hi0 hz0 hz1 hz2 rfl (by decide) _ 0 [] rfl (World.ownsRow.alloc (own_empty6 _ _ _ _ (by simp)) _) ⟨w2.heap.size + 1 + 1, 0, none⟩ 1 1 (#[.int .i64 1, .bool false, .int .u64 0, .int .u64 0, .int .u64 0, .int .u64 0, .int .u64 0, .string ⟨#[]⟩, .slice none 0 0, .slice none 0 0] : Array Value).toList rfl rfl (news_new0 _ _ _ _ (by simp)) (by intro u hu; simp only [List.mem_cons, List.not_mem_nil, or_false] at hu; rcases hu with rfl | rfl | rfl | rfl | rfl | rfl | rfl | rfl | rfl | rfl <;> rfl) (by decide) (by unfold maxLen; omega) (by omega) (by simp <;> omega) _ rfl ?_
         intro gc cap2 w4 hown4 hgrow _ _
         try simp only [Nat.zero_add, List.nil_append] at hown4
         have hg4 : World.grownBy _ w4 (some (w2.heap.size + 1)) := hgrow
         have hl4 := X2.lt
         have X4 := Row10.grown (Row10.alloc (Row10.alloc (Row10.alloc X2 _) _) _) hg4 (by simp <;> omega)
         have Y4 := Row10.grown (Row10.alloc (Row10.alloc (Row10.new w2 _ _ _ _ _ _ _ _ _ _) _) _) hg4 (by simp)
         have B4 := Lib.hid (Below.grown (bal (bal (bal B2.out _) _) _) hg4 (bal (bal (bal B2.out _) _) _).size (by intro q hq; cases hq; omega))
         have hgc := own_base6 hown4
         clear hgrow hg4
         obtain ⟨t0, t1, t2, t3, t4, t5, t6, t7, t8, t9⟩ := Y4.parts
         have u8 := Y4.free 8
         have z0 := cell_set_other X4.parts.1 (b := w2.heap.size) (i := 8) (show w.heap.size ≠ w2.heap.size by omega)))
    have OWN5 := own_set6 hown4 (b := w2.heap.size) (i := 8) (by omega) (.slice (some ⟨gc, 0, none⟩) 1 cap2)
    have B5 := Lib.hid (Below.setCell B4.out (p := ⟨w2.heap.size, 8, none⟩) B2.out.size (.slice (some ⟨gc, 0, none⟩) 1 cap2))
    have Y5 := Row10.set8 Y4 (.slice (some ⟨gc, 0, none⟩) 1 cap2)
    have X5 := Row10.set X4 (c := w2.heap.size) (i := 8) (by omega) (.slice (some ⟨gc, 0, none⟩) 1 cap2)
    ((with_reducible refine (told6_true _ (tb_on HT.out B5.out)).mono ?_); rintro e w6 ⟨rfl, hb⟩)
    have B6 := Lib.hid (btr B5.out hb); have Y6 := Row10.keep hb Y5
    have OWN6 := Lib.hid (own_mono6 (own_keep6 OWN5 hb) (show w.heap.size ≤ w2.heap.size + 1 by have := X2.lt; omega))
    clear hb OWN5 Y5 t0 t1 t2 t3 t4 t5 t6 t7 t8 t9 p0 p1 p2 p3 p4 p5 p6 p7 p8 p9 u8 hown4 hgc
    obtain ⟨q0, q1, q2, q3, q4, q5, q6, q7, q8, q9⟩ := Y6.parts
    go_wp2_with (go_at_call 15; ((with_reducible refine (K3.out _ gc cap2 OWN6.out B6.out).mono ?_); rintro e w7 ⟨rfl, hb⟩))
    go_ret
    exact ⟨rfl, btr B6.out hb⟩
set_option maxRecDepth 100000 in
set_option maxHeartbeats 4000000 in
theorem turned_keys (kd : Int) (g : Bool) (x0 x1 x2 x3 b : Int) (s : ByteArray) (la : Option Addr) (n lc : Nat) (kc : Nat) (kb koff : Nat) (ks : List ByteArray) (i : Int) (w : World) (hT : Tb w) (hi : IntKind.i64.wrap ((IntKind.u64.wrap i).tmod 6) = 4) (h0 : 0 < ks.length) (h4 : ks.length ≤ 400) (hKK : KeysL w (some ⟨kb, koff, none⟩) ks kb koff)
    (k1 : ∀ W, Below w.heap.size w W → Calls Tryd.prog 9 #[V10 kd g x0 x1 x2 x3 b s la n lc (some ⟨kb, koff, none⟩) ks.length kc] W fun e w' => e = .returned (.bool true) ∧ Below W.heap.size W w')
    (k2 : ∀ W, Below w.heap.size w W → Calls Tryd.prog 10 #[V10 kd g x0 x1 x2 x3 b s la n lc (some ⟨kb, koff, none⟩) ks.length kc] W fun e w' => e = .returned (.int .i64 0) ∧ Below W.heap.size W w')
    (k3 : ∀ W gb cap, W.ownsRow w.heap.size 9 1 (.slice (some ⟨gb, 0, none⟩) (ks.length + 1) cap) (ks.length + 1) (ks.map Value.string ++ [.string ⟨#[126, 126, 126, 126, 126, 126, 126, 126]⟩]) → Below w.heap.size w W → Calls Tryd.prog 15 #[V10 kd g x0 x1 x2 x3 b s la n lc (some ⟨gb, 0, none⟩) (ks.length + 1) cap] W fun e w' => e = .returned (.int .i64 1) ∧ Below W.heap.size W w') :
    Calls Tryd.prog 5 #[V10 kd g x0 x1 x2 x3 b s la n lc (some ⟨kb, koff, none⟩) ks.length kc, .int .i64 i] w fun e w' => e = .returned (.bool true) ∧ Below w.heap.size w w' := by
  obtain ⟨i0, hi0, hz0, hz1, hz2⟩ := info_at info_str
  have HT := Lib.hid hT; have K1 := Lib.hid k1; have K2 := Lib.hid k2; have K3 := Lib.hid k3; have HKK := Lib.hid hKK
  clear hT k1 k2 k3 hKK
  go_enter Tryd.func5, Tryd.ntmps5
  go_wp2_with fail
  ((with_reducible refine (K1.out _ (bal (Below.refl _ _) _)).mono ?_); rintro e w1 ⟨rfl, hb⟩)
  have B1 := Lib.hid (btr (bal (Below.refl w.heap.size w) _) hb); have X1 := Row10.keep hb (Row10.new w (.int .i64 kd) (.bool g) (.int .u64 x0) (.int .u64 x1) (.int .u64 x2) (.int .u64 x3) (.int .u64 b) (.string s) (.slice la n lc) (.slice (some ⟨kb, koff, none⟩) ks.length kc))
  clear hb
  obtain ⟨p0, p1, p2, p3, p4, p5, p6, p7, p8, p9⟩ := X1.parts
  go_wp2_with fail
  ((with_reducible refine (K2.out _ B1.out).mono ?_); rintro e w2 ⟨rfl, hb⟩)
  have B2 := Lib.hid (btr B1.out hb); have X2 := Row10.keep hb X1
  clear hb B1 X1 p0 p1 p2 p3 p4 p5 p6 p7 p8 p9
  obtain ⟨p0, p1, p2, p3, p4, p5, p6, p7, p8, p9⟩ := X2.parts
  have e0 := fun o => alloc_cell p0 o
  have f9 := fun o o' => alloc_cell (alloc_cell p9 o) o'
  have HN := Lib.hid (fun o o' => keys_news (KeysL.keep HKK.out (bal (bal B2.out o) o')))
  go_wp2_with (first
    | (at_builtin; refine wpList_append_lies _ rfl (.tmp 102) (.tmp 104) 28 rfl (w2.heap.size + 1) 9 i0 (.string ⟨#[]⟩) 1 16 und_strs hi0 hz0 hz1 hz2 rfl (by decide) _ 0 [] rfl (own_empty6 _ _ _ _ (by simp)) ⟨kb, koff, none⟩ ks.length kc (ks.map Value.string) rfl (by simp) (HN.out _ _) (one_strs ks) h0 (by unfold maxLen; omega) (by omega) (by simp) _ rfl ?_
       intro gb cap w3 hown hgrow _ _
       simp only [Nat.zero_add, List.nil_append] at hown
       have hg3 : World.grownBy _ w3 (some (w2.heap.size + 1)) := hgrow
       have hl2 := X2.lt
       have X3 := Row10.grown (Row10.alloc (Row10.alloc X2 _) _) hg3 (by simp <;> omega)
       have Y3 := Row10.grown (Row10.alloc (Row10.new w2 (.int .i64 kd) (.bool g) (.int .u64 x0) (.int .u64 x1) (.int .u64 x2) (.int .u64 x3) (.int .u64 b) (.string s) (.slice la n lc) (.slice (some ⟨kb, koff, none⟩) ks.length kc)) (.cells #[] 9)) hg3 (by simp)
       have B3 := Lib.hid (Below.grown (bal (bal B2.out _) _) hg3 (bal (bal B2.out _) _).size (by intro q hq; cases hq; omega))
       have hs3 : w2.heap.size + 1 ≤ w3.heap.size := by have := hg3.size; simp at this; omega
       have hgb := own_base6 hown
       obtain ⟨r0, r1, r2, r3, r4, r5, r6, r7, r8, r9⟩ := X3.parts
       clear hgrow hg3 HN f9)
    | (at_builtin; refine wpList_append_lies _ rfl (.tmp 105) (.tmp 106) 28 rfl (w2.heap.size + 1) 9 i0 (.string ⟨#[]⟩) 1 16 und_strs hi0 hz0 hz1 hz2 rfl (by decide) _ ks.length (ks.map Value.string) rfl (hown.alloc _) ⟨w3.heap.size, 0, none⟩ 1 1 [.string ⟨#[126, 126, 126, 126, 126, 126, 126, 126]⟩] rfl rfl (cell_of_str _ _ _) (by intro u hu; simp at hu; subst hu; rfl) (by decide) (by unfold maxLen; omega) (by omega) (by simp <;> omega) _ rfl ?_
       intro gc cap2 w4 hown4 hgrow _ _
       have hg4 : World.grownBy _ w4 (some gb) := hgrow
       have X4 := Row10.grown (Row10.alloc X3 _) hg4 (by simp <;> omega)
       have Y4 := Row10.grown (Row10.alloc Y3 _) hg4 (by simp <;> omega)
       have B4 := Lib.hid (Below.grown (bal B3.out _) hg4 (bal B3.out _).size (by intro q hq; cases hq; omega))
       have hgc := own_base6 hown4
       have hl4 := X2.lt
       clear hgrow hg4 hown X3 Y3
       obtain ⟨t0, t1, t2, t3, t4, t5, t6, t7, t8, t9⟩ := Y4.parts
       have u9 := Y4.free 9
       have z0 := cell_set_other X4.parts.1 (b := w2.heap.size) (i := 9) (show w.heap.size ≠ w2.heap.size by omega)))
  have OWN5 := own_set6 hown4 (b := w2.heap.size) (i := 9) (by omega) (.slice (some ⟨gc, 0, none⟩) (ks.length + 1) cap2)
  have B5 := Lib.hid (Below.setCell B4.out (p := ⟨w2.heap.size, 9, none⟩) B2.out.size (.slice (some ⟨gc, 0, none⟩) (ks.length + 1) cap2))
  have Y5 := Row10.set9 Y4 (.slice (some ⟨gc, 0, none⟩) (ks.length + 1) cap2)
  have X5 := Row10.set X4 (c := w2.heap.size) (i := 9) (by omega) (.slice (some ⟨gc, 0, none⟩) (ks.length + 1) cap2)
  ((with_reducible refine (told6_true _ (tb_on HT.out B5.out)).mono ?_); rintro e w6 ⟨rfl, hb⟩)
  have B6 := Lib.hid (btr B5.out hb); have Y6 := Row10.keep hb Y5
  have OWN6 := Lib.hid (own_mono6 (own_keep6 OWN5 hb) (show w.heap.size ≤ w2.heap.size + 1 by have := X2.lt; omega))
  clear hb OWN5 Y5 t0 t1 t2 t3 t4 t5 t6 t7 t8 t9 p0 p1 p2 p3 p4 p5 p6 p7 p8 p9 u9 hown4 hgc
  obtain ⟨q0, q1, q2, q3, q4, q5, q6, q7, q8, q9⟩ := Y6.parts
  go_wp2_with (go_at_call 15; ((with_reducible refine (K3.out _ gc cap2 OWN6.out B6.out).mono ?_); rintro e w7 ⟨rfl, hb⟩))
  go_ret
  exact ⟨rfl, btr B6.out hb⟩
set_option maxRecDepth 100000 in
set_option maxHeartbeats 4000000 in
theorem turned_list (kd : Int) (g : Bool) (x0 x1 x2 x3 b : Int) (s : ByteArray) (lc : Nat) (ka : Option Addr) (m kc : Nat) (bb off : Nat) (kids : List VT) (i : Int) (w : World) (hT : Tb w) (hi : IntKind.i64.wrap ((IntKind.u64.wrap i).tmod 6) = 5) (hk : (kd == 7) = false) (h0 : 0 < kids.length) (h4 : kids.length ≤ 400) (hKK : Kids w (some ⟨bb, off, none⟩) kids bb off)
    (k1 : ∀ W, Below w.heap.size w W → Calls Tryd.prog 9 #[V10 kd g x0 x1 x2 x3 b s (some ⟨bb, off, none⟩) kids.length lc ka m kc] W fun e w' => e = .returned (.bool true) ∧ Below W.heap.size W w')
    (k2 : ∀ W, Below w.heap.size w W → Calls Tryd.prog 10 #[V10 kd g x0 x1 x2 x3 b s (some ⟨bb, off, none⟩) kids.length lc ka m kc] W fun e w' => e = .returned (.int .i64 0) ∧ Below W.heap.size W w')
    (k3 : ∀ W gb cap, W.ownsRow w.heap.size 30 10 (.slice (some ⟨gb, 0, none⟩) (kids.length + 1) cap) (kids.length + 1) (newsV kids ++ (#[.int .i64 1, .bool false, .int .u64 0, .int .u64 0, .int .u64 0, .int .u64 0, .int .u64 0, .string ⟨#[]⟩, .slice none 0 0, .slice none 0 0] : Array Value).toList) → Below w.heap.size w W → Calls Tryd.prog 15 #[V10 kd g x0 x1 x2 x3 b s (some ⟨gb, 0, none⟩) (kids.length + 1) cap ka m kc] W fun e w' => e = .returned (.int .i64 1) ∧ Below W.heap.size W w') :
    Calls Tryd.prog 5 #[V10 kd g x0 x1 x2 x3 b s (some ⟨bb, off, none⟩) kids.length lc ka m kc, .int .i64 i] w fun e w' => e = .returned (.bool true) ∧ Below w.heap.size w w' := by
  obtain ⟨i0, hi0, hz0, hz1, hz2⟩ := info_at info_val
  have HT := Lib.hid hT; have K1 := Lib.hid k1; have K2 := Lib.hid k2; have K3 := Lib.hid k3; have HKK := Lib.hid hKK
  clear hT k1 k2 k3 hKK
  go_enter Tryd.func5, Tryd.ntmps5
  go_wp2_with fail
  ((with_reducible refine (K1.out _ (bal (Below.refl _ _) _)).mono ?_); rintro e w1 ⟨rfl, hb⟩)
  have B1 := Lib.hid (btr (bal (Below.refl w.heap.size w) _) hb); have X1 := Row10.keep hb (Row10.new w (.int .i64 kd) (.bool g) (.int .u64 x0) (.int .u64 x1) (.int .u64 x2) (.int .u64 x3) (.int .u64 b) (.string s) (.slice (some ⟨bb, off, none⟩) kids.length lc) (.slice ka m kc))
  clear hb
  obtain ⟨p0, p1, p2, p3, p4, p5, p6, p7, p8, p9⟩ := X1.parts
  go_wp2_with fail
  ((with_reducible refine (K2.out _ B1.out).mono ?_); rintro e w2 ⟨rfl, hb⟩)
  have B2 := Lib.hid (btr B1.out hb); have X2 := Row10.keep hb X1
  clear hb B1 X1 p0 p1 p2 p3 p4 p5 p6 p7 p8 p9
  obtain ⟨p0, p1, p2, p3, p4, p5, p6, p7, p8, p9⟩ := X2.parts
  have e0 := fun o => alloc_cell p0 o
  have f8 := fun o o' => alloc_cell (alloc_cell p8 o) o'
  have HN := Lib.hid (fun o o' => kids_news (Kids.keep HKK.out (bal (bal B2.out o) o')))
  go_wp2_with (first
    | (at_builtin; refine wpList_append_lies _ rfl (.tmp 20) (.tmp 22) 27 rfl (w2.heap.size + 1) 30 i0 (V10 0 false 0 0 0 0 0 ⟨#[]⟩ none 0 0 none 0 0) 10 120 und_vals hi0 hz0 hz1 hz2 rfl (by decide) _ 0 [] rfl (own_empty6 _ _ _ _ (by simp)) ⟨bb, off, none⟩ kids.length lc (newsV kids) rfl (newsV_length kids) (HN.out _ _) (newsV_one kids) h0 (by unfold maxLen; omega) (by omega) (by simp) _ rfl ?_
       intro gb cap w3 hown hgrow _ _
       simp only [Nat.zero_add, List.nil_append] at hown
       have hg3 : World.grownBy _ w3 (some (w2.heap.size + 1)) := hgrow
       have hl2 := X2.lt
       have X3 := Row10.grown (Row10.alloc (Row10.alloc X2 _) _) hg3 (by simp <;> omega)
       have Y3 := Row10.grown (Row10.alloc (Row10.new w2 (.int .i64 kd) (.bool g) (.int .u64 x0) (.int .u64 x1) (.int .u64 x2) (.int .u64 x3) (.int .u64 b) (.string s) (.slice (some ⟨bb, off, none⟩) kids.length lc) (.slice ka m kc)) (.cells #[] 30)) hg3 (by simp)
       have B3 := Lib.hid (Below.grown (bal (bal B2.out _) _) hg3 (bal (bal B2.out _) _).size (by intro q hq; cases hq; omega))
       have hs3 : w2.heap.size + 1 ≤ w3.heap.size := by have := hg3.size; simp at this; omega
       have hgb := own_base6 hown
       obtain ⟨r0, r1, r2, r3, r4, r5, r6, r7, r8, r9⟩ := X3.parts
       clear hgrow hg3 HN f8)
    | (at_builtin; refine wpList_append_lies _ rfl (.tmp 23) (.tmp 25) 27 rfl (w2.heap.size + 1) 30 i0 (V10 0 false 0 0 0 0 0 ⟨#[]⟩ none 0 0 none 0 0) 10 120 und_vals hi0 hz0 hz1 hz2 rfl (by decide) _ kids.length (newsV kids) rfl (hown.alloc _) ⟨w3.heap.size, 0, none⟩ 1 1 (#[.int .i64 1, .bool false, .int .u64 0, .int .u64 0, .int .u64 0, .int .u64 0, .int .u64 0, .string ⟨#[]⟩, .slice none 0 0, .slice none 0 0] : Array Value).toList rfl rfl (news_new _ _ _) (by intro u hu; simp only [List.mem_cons, List.not_mem_nil, or_false] at hu; rcases hu with rfl | rfl | rfl | rfl | rfl | rfl | rfl | rfl | rfl | rfl <;> rfl) (by decide) (by unfold maxLen; omega) (by omega) (by simp <;> omega) _ rfl ?_
       intro gc cap2 w4 hown4 hgrow _ _
       have hg4 : World.grownBy _ w4 (some gb) := hgrow
       have X4 := Row10.grown (Row10.alloc X3 _) hg4 (by simp <;> omega)
       have Y4 := Row10.grown (Row10.alloc Y3 _) hg4 (by simp <;> omega)
       have B4 := Lib.hid (Below.grown (bal B3.out _) hg4 (bal B3.out _).size (by intro q hq; cases hq; omega))
       have hgc := own_base6 hown4
       have hl4 := X2.lt
       clear hgrow hg4 hown X3 Y3
       obtain ⟨t0, t1, t2, t3, t4, t5, t6, t7, t8, t9⟩ := Y4.parts
       have u8 := Y4.free 8
       have z0 := cell_set_other X4.parts.1 (b := w2.heap.size) (i := 8) (show w.heap.size ≠ w2.heap.size by omega)))
  have OWN5 := own_set6 hown4 (b := w2.heap.size) (i := 8) (by omega) (.slice (some ⟨gc, 0, none⟩) (kids.length + 1) cap2)
  have B5 := Lib.hid (Below.setCell B4.out (p := ⟨w2.heap.size, 8, none⟩) B2.out.size (.slice (some ⟨gc, 0, none⟩) (kids.length + 1) cap2))
  have Y5 := Row10.set8 Y4 (.slice (some ⟨gc, 0, none⟩) (kids.length + 1) cap2)
  have X5 := Row10.set X4 (c := w2.heap.size) (i := 8) (by omega) (.slice (some ⟨gc, 0, none⟩) (kids.length + 1) cap2)
  ((with_reducible refine (told6_true _ (tb_on HT.out B5.out)).mono ?_); rintro e w6 ⟨rfl, hb⟩)
  have B6 := Lib.hid (btr B5.out hb); have Y6 := Row10.keep hb Y5
  have OWN6 := Lib.hid (own_mono6 (own_keep6 OWN5 hb) (show w.heap.size ≤ w2.heap.size + 1 by have := X2.lt; omega))
  clear hb OWN5 Y5 t0 t1 t2 t3 t4 t5 t6 t7 t8 t9 p0 p1 p2 p3 p4 p5 p6 p7 p8 p9 u8 hown4 hgc
  obtain ⟨q0, q1, q2, q3, q4, q5, q6, q7, q8, q9⟩ := Y6.parts
  go_wp2_with (go_at_call 15; ((with_reducible refine (K3.out _ gc cap2 OWN6.out B6.out).mono ?_); rintro e w7 ⟨rfl, hb⟩))
  go_ret
  exact ⟨rfl, btr B6.out hb⟩
set_option maxRecDepth 100000 in
set_option maxHeartbeats 4000000 in
theorem turned_nodes (g : Bool) (x0 x1 x2 x3 b : Int) (s : ByteArray) (lc : Nat) (ka : Option Addr) (m kc : Nat) (bb off : Nat) (kids : List VT) (i : Int) (w : World) (hT : Tb w) (hi : IntKind.i64.wrap ((IntKind.u64.wrap i).tmod 6) = 5) (N : Int) (hN : IntKind.i64.wrap (N + 1) = N + 1) (h0 : 0 < kids.length) (h4 : kids.length ≤ 400) (hKK : Kids w (some ⟨bb, off, none⟩) kids bb off)
    (k1 : ∀ W, Below w.heap.size w W → Calls Tryd.prog 9 #[V10 7 g x0 x1 x2 x3 b s (some ⟨bb, off, none⟩) kids.length lc ka m kc] W fun e w' => e = .returned (.bool true) ∧ Below W.heap.size W w')
    (k2 : ∀ W, Below w.heap.size w W → Calls Tryd.prog 10 #[V10 7 g x0 x1 x2 x3 b s (some ⟨bb, off, none⟩) kids.length lc ka m kc] W fun e w' => e = .returned (.int .i64 0) ∧ Below W.heap.size W w')
    (k3 : ∀ W gb cap, W.ownsRow w.heap.size 30 10 (.slice (some ⟨gb, 0, none⟩) (kids.length + 1) cap) (kids.length + 1) (newsV kids ++ (#[.int .i64 1, .bool false, .int .u64 0, .int .u64 0, .int .u64 0, .int .u64 0, .int .u64 0, .string ⟨#[]⟩, .slice none 0 0, .slice none 0 0] : Array Value).toList) → Below w.heap.size w W → Calls Tryd.prog 16 #[V10 7 g x0 x1 x2 x3 b s (some ⟨gb, 0, none⟩) (kids.length + 1) cap ka m kc] W fun e w' => e = .returned (.int .i64 (N + 1)) ∧ Below W.heap.size W w')
    (k4 : ∀ W, Below w.heap.size w W → Calls Tryd.prog 16 #[V10 7 g x0 x1 x2 x3 b s (some ⟨bb, off, none⟩) kids.length lc ka m kc] W fun e w' => e = .returned (.int .i64 N) ∧ Below W.heap.size W w') :
    Calls Tryd.prog 5 #[V10 7 g x0 x1 x2 x3 b s (some ⟨bb, off, none⟩) kids.length lc ka m kc, .int .i64 i] w fun e w' => e = .returned (.bool true) ∧ Below w.heap.size w w' := by
  obtain ⟨i0, hi0, hz0, hz1, hz2⟩ := info_at info_val
  have HT := Lib.hid hT; have K1 := Lib.hid k1; have K2 := Lib.hid k2; have K3 := Lib.hid k3; have K4 := Lib.hid k4; have HKK := Lib.hid hKK
  clear hT k1 k2 k3 k4 hKK
  go_enter Tryd.func5, Tryd.ntmps5
  go_wp2_with fail
  ((with_reducible refine (K1.out _ (bal (Below.refl _ _) _)).mono ?_); rintro e w1 ⟨rfl, hb⟩)
  have B1 := Lib.hid (btr (bal (Below.refl w.heap.size w) _) hb); have X1 := Row10.keep hb (Row10.new w (.int .i64 7) (.bool g) (.int .u64 x0) (.int .u64 x1) (.int .u64 x2) (.int .u64 x3) (.int .u64 b) (.string s) (.slice (some ⟨bb, off, none⟩) kids.length lc) (.slice ka m kc))
  clear hb
  obtain ⟨p0, p1, p2, p3, p4, p5, p6, p7, p8, p9⟩ := X1.parts
  go_wp2_with fail
  ((with_reducible refine (K2.out _ B1.out).mono ?_); rintro e w2 ⟨rfl, hb⟩)
  have B2 := Lib.hid (btr B1.out hb); have X2 := Row10.keep hb X1
  clear hb B1 X1 p0 p1 p2 p3 p4 p5 p6 p7 p8 p9
  obtain ⟨p0, p1, p2, p3, p4, p5, p6, p7, p8, p9⟩ := X2.parts
  have e0 := fun o => alloc_cell p0 o
  have f8 := fun o o' => alloc_cell (alloc_cell p8 o) o'
  have HN := Lib.hid (fun o o' => kids_news (Kids.keep HKK.out (bal (bal B2.out o) o')))
  go_upto_region 7 with (first
    | (at_builtin; refine wpList_append_lies _ rfl (.tmp 20) (.tmp 22) 27 rfl (w2.heap.size + 1) 30 i0 (V10 0 false 0 0 0 0 0 ⟨#[]⟩ none 0 0 none 0 0) 10 120 und_vals hi0 hz0 hz1 hz2 rfl (by decide) _ 0 [] rfl (own_empty6 _ _ _ _ (by simp)) ⟨bb, off, none⟩ kids.length lc (newsV kids) rfl (newsV_length kids) (HN.out _ _) (newsV_one kids) h0 (by unfold maxLen; omega) (by omega) (by simp) _ rfl ?_
       intro gb cap w3 hown hgrow _ _
       simp only [Nat.zero_add, List.nil_append] at hown
       have hg3 : World.grownBy _ w3 (some (w2.heap.size + 1)) := hgrow
       have hl2 := X2.lt
       have X3 := Row10.grown (Row10.alloc (Row10.alloc X2 _) _) hg3 (by simp <;> omega)
       have Y3 := Row10.grown (Row10.alloc (Row10.new w2 (.int .i64 7) (.bool g) (.int .u64 x0) (.int .u64 x1) (.int .u64 x2) (.int .u64 x3) (.int .u64 b) (.string s) (.slice (some ⟨bb, off, none⟩) kids.length lc) (.slice ka m kc)) (.cells #[] 30)) hg3 (by simp)
       have B3 := Lib.hid (Below.grown (bal (bal B2.out _) _) hg3 (bal (bal B2.out _) _).size (by intro q hq; cases hq; omega))
       have hs3 : w2.heap.size + 1 ≤ w3.heap.size := by have := hg3.size; simp at this; omega
       have hgb := own_base6 hown
       obtain ⟨r0, r1, r2, r3, r4, r5, r6, r7, r8, r9⟩ := X3.parts
       clear hgrow hg3 HN f8)
    | (at_builtin; refine wpList_append_lies _ rfl (.tmp 23) (.tmp 25) 27 rfl (w2.heap.size + 1) 30 i0 (V10 0 false 0 0 0 0 0 ⟨#[]⟩ none 0 0 none 0 0) 10 120 und_vals hi0 hz0 hz1 hz2 rfl (by decide) _ kids.length (newsV kids) rfl (hown.alloc _) ⟨w3.heap.size, 0, none⟩ 1 1 (#[.int .i64 1, .bool false, .int .u64 0, .int .u64 0, .int .u64 0, .int .u64 0, .int .u64 0, .string ⟨#[]⟩, .slice none 0 0, .slice none 0 0] : Array Value).toList rfl rfl (news_new _ _ _) (by intro u hu; simp only [List.mem_cons, List.not_mem_nil, or_false] at hu; rcases hu with rfl | rfl | rfl | rfl | rfl | rfl | rfl | rfl | rfl | rfl <;> rfl) (by decide) (by unfold maxLen; omega) (by omega) (by simp <;> omega) _ rfl ?_
       intro gc cap2 w4 hown4 hgrow _ _
       have hg4 : World.grownBy _ w4 (some gb) := hgrow
       have X4 := Row10.grown (Row10.alloc X3 _) hg4 (by simp <;> omega)
       have Y4 := Row10.grown (Row10.alloc Y3 _) hg4 (by simp <;> omega)
       have B4 := Lib.hid (Below.grown (bal B3.out _) hg4 (bal B3.out _).size (by intro q hq; cases hq; omega))
       have hgc := own_base6 hown4
       have hl4 := X2.lt
       clear hgrow hg4 hown X3 Y3
       obtain ⟨t0, t1, t2, t3, t4, t5, t6, t7, t8, t9⟩ := Y4.parts
       have u8 := Y4.free 8
       have z0 := cell_set_other X4.parts.1 (b := w2.heap.size) (i := 8) (show w.heap.size ≠ w2.heap.size by omega)))
  have OWN5 := own_set6 hown4 (b := w2.heap.size) (i := 8) (by omega) (.slice (some ⟨gc, 0, none⟩) (kids.length + 1) cap2)
  have B5 := Lib.hid (Below.setCell B4.out (p := ⟨w2.heap.size, 8, none⟩) B2.out.size (.slice (some ⟨gc, 0, none⟩) (kids.length + 1) cap2))
  have Y5 := Row10.set8 Y4 (.slice (some ⟨gc, 0, none⟩) (kids.length + 1) cap2)
  have X5 := Row10.set X4 (c := w2.heap.size) (i := 8) (by omega) (.slice (some ⟨gc, 0, none⟩) (kids.length + 1) cap2)
  go_name_world w5 hw5
  have OWN6 := Lib.hid (own_mono6 OWN5 (show w.heap.size ≤ w2.heap.size + 1 by have := X2.lt; omega))
  have C5 := B5.out
  have D5 := OWN6.out
  clear OWN5 OWN6 B5
  have C6 : Below w.heap.size w w5 := by rw [← hw5]; exact C5
  have D6 : w5.ownsRow w.heap.size 30 10 (.slice (some ⟨gc, 0, none⟩) (kids.length + 1) cap2) (kids.length + 1) (newsV kids ++ (#[.int .i64 1, .bool false, .int .u64 0, .int .u64 0, .int .u64 0, .int .u64 0, .int .u64 0, .string ⟨#[]⟩, .slice none 0 0, .slice none 0 0] : Array Value).toList) := by rw [← hw5]; exact D5
  have Y6 := Y5
  have X6 := X5
  rw [hw5] at Y6 X6
  clear hw5 C5 D5 Y5 X5 t0 t1 t2 t3 t4 t5 t6 t7 t8 t9 p0 p1 p2 p3 p4 p5 p6 p7 p8 p9 u8 z0 hown4 hgc X4 Y4 B4 e0
  have B6 := Lib.hid C6; have OWN6 := Lib.hid D6
  clear C6 D6
  obtain ⟨p0, p1, p2, p3, p4, p5, p6, p7, p8, p9⟩ := X6.parts
  obtain ⟨t0, t1, t2, t3, t4, t5, t6, t7, t8, t9⟩ := Y6.parts
  have zp0 := cell_regrown p0; have zp1 := cell_regrown p1; have zp2 := cell_regrown p2; have zp3 := cell_regrown p3; have zp4 := cell_regrown p4; have zp5 := cell_regrown p5; have zp6 := cell_regrown p6; have zp7 := cell_regrown p7; have zp8 := cell_regrown p8; have zp9 := cell_regrown p9
  have zt0 := cell_regrown t0; have zt1 := cell_regrown t1; have zt2 := cell_regrown t2; have zt3 := cell_regrown t3; have zt4 := cell_regrown t4; have zt5 := cell_regrown t5; have zt6 := cell_regrown t6; have zt7 := cell_regrown t7; have zt8 := cell_regrown t8; have zt9 := cell_regrown t9
  clear t0 t1 t2 t3 t4 t5 t6 t7 t8 t9 p0 p1 p2 p3 p4 p5 p6 p7 p8 p9
  have cq0 := fun (d : Nat) (os : Array Obj) => Calls.regrown_of (w := w5) (d := d) (os := os) (told6_true _ (tb_on HT.out (btr B6.out (below_regrown w5 d os))))
  have cq1 := fun (d : Nat) (os : Array Obj) => Calls.regrown_of (w := w5) (d := d) (os := os) (K3.out _ gc cap2 (own_keep6 OWN6.out (below_regrown w5 d os)) (btr B6.out (below_regrown w5 d os)))
  have cq2 := fun (d : Nat) (os : Array Obj) => Calls.regrown_of (w := w5) (d := d) (os := os) (K4.out _ (btr B6.out (below_regrown w5 d os)))
  refine wp_region_quiet_below (by kernel_rfl) (by kernel_rfl) ?_
  repeat (first | go_big_quiet_step ((first | with_reducible exact cq0 _ _ | with_reducible exact cq1 _ _ | with_reducible exact cq2 _ _)) | quiet_step (first | with_reducible exact cq0 _ _ | with_reducible exact cq1 _ _ | with_reducible exact cq2 _ _))
  refine wpQuiet_nil ?_
  intro _ hw'
  obtain ⟨⟨dq, osq⟩, hw''⟩ := hw'
  subst hw''
  have BV := Lib.hid (btr B6.out (below_regrown w5 dq osq))
  clear zp0 zp1 zp2 zp3 zp4 zp5 zp6 zp7 zp8 zp9 zt0 zt1 zt2 zt3 zt4 zt5 zt6 zt7 zt8 zt9 cq0 cq1 cq2
  generalize grow (redrawn w5 dq) osq = w9 at *
  go_wp2
  go_ret
  exact ⟨rfl, BV.out⟩
set_option maxRecDepth 100000 in
set_option maxHeartbeats 4000000 in
theorem turned_nodes0 (g : Bool) (x0 x1 x2 x3 b : Int) (s : ByteArray) (lc : Nat) (ka : Option Addr) (m kc : Nat) (la : Option Addr) (i : Int) (w : World) (hT : Tb w) (hi : IntKind.i64.wrap ((IntKind.u64.wrap i).tmod 6) = 5) (N : Int) (hN : IntKind.i64.wrap (N + 1) = N + 1) 
    (k1 : ∀ W, Below w.heap.size w W → Calls Tryd.prog 9 #[V10 7 g x0 x1 x2 x3 b s la 0 lc ka m kc] W fun e w' => e = .returned (.bool true) ∧ Below W.heap.size W w')
    (k2 : ∀ W, Below w.heap.size w W → Calls Tryd.prog 10 #[V10 7 g x0 x1 x2 x3 b s la 0 lc ka m kc] W fun e w' => e = .returned (.int .i64 0) ∧ Below W.heap.size W w')
    (k3 : ∀ W gb cap, W.ownsRow w.heap.size 30 10 (.slice (some ⟨gb, 0, none⟩) 1 cap) 1 ((#[.int .i64 1, .bool false, .int .u64 0, .int .u64 0, .int .u64 0, .int .u64 0, .int .u64 0, .string ⟨#[]⟩, .slice none 0 0, .slice none 0 0] : Array Value).toList) → Below w.heap.size w W → Calls Tryd.prog 16 #[V10 7 g x0 x1 x2 x3 b s (some ⟨gb, 0, none⟩) 1 cap ka m kc] W fun e w' => e = .returned (.int .i64 (N + 1)) ∧ Below W.heap.size W w')
    (k4 : ∀ W, Below w.heap.size w W → Calls Tryd.prog 16 #[V10 7 g x0 x1 x2 x3 b s la 0 lc ka m kc] W fun e w' => e = .returned (.int .i64 N) ∧ Below W.heap.size W w') :
    Calls Tryd.prog 5 #[V10 7 g x0 x1 x2 x3 b s la 0 lc ka m kc, .int .i64 i] w fun e w' => e = .returned (.bool true) ∧ Below w.heap.size w w' := by
  obtain ⟨i0, hi0, hz0, hz1, hz2⟩ := info_at info_val
  have HT := Lib.hid hT; have K1 := Lib.hid k1; have K2 := Lib.hid k2; have K3 := Lib.hid k3; have K4 := Lib.hid k4
  clear hT k1 k2 k3 k4
  go_enter Tryd.func5, Tryd.ntmps5
  go_wp2_with fail
  ((with_reducible refine (K1.out _ (bal (Below.refl _ _) _)).mono ?_); rintro e w1 ⟨rfl, hb⟩)
  have B1 := Lib.hid (btr (bal (Below.refl w.heap.size w) _) hb); have X1 := Row10.keep hb (Row10.new w (.int .i64 7) (.bool g) (.int .u64 x0) (.int .u64 x1) (.int .u64 x2) (.int .u64 x3) (.int .u64 b) (.string s) (.slice la 0 lc) (.slice ka m kc))
  clear hb
  obtain ⟨p0, p1, p2, p3, p4, p5, p6, p7, p8, p9⟩ := X1.parts
  go_wp2_with fail
  ((with_reducible refine (K2.out _ B1.out).mono ?_); rintro e w2 ⟨rfl, hb⟩)
  have B2 := Lib.hid (btr B1.out hb); have X2 := Row10.keep hb X1
  clear hb B1 X1 p0 p1 p2 p3 p4 p5 p6 p7 p8 p9
  obtain ⟨p0, p1, p2, p3, p4, p5, p6, p7, p8, p9⟩ := X2.parts
  have e0 := fun o => alloc_cell p0 o
  have f8 := fun o o' => alloc_cell (alloc_cell p8 o) o'
  cases la
  all_goals
    go_upto_region 7 with (first
      | fail
      | (at_builtin; refine wpList_append_lies _ rfl (.tmp 23) (.tmp 25) 27 rfl (w2.heap.size + 1) 30 i0 (V10 0 false 0 0 0 0 0 ⟨#[]⟩ none 0 0 none 0 0) 10 120 und_vals hi0 hz0 hz1 hz2 rfl (by decide) _ 0 [] rfl (World.ownsRow.alloc (own_empty6 _ _ _ _ (by simp)) _) ⟨w2.heap.size + 1 + 1, 0, none⟩ 1 1 (#[.int .i64 1, .bool false, .int .u64 0, .int .u64 0, .int .u64 0, .int .u64 0, .int .u64 0, .string ⟨#[]⟩, .slice none 0 0, .slice none 0 0] : Array Value).toList rfl rfl (news_new0 _ _ _ _ (by simp)) (by intro u hu; simp only [List.mem_cons, List.not_mem_nil, or_false] at hu; rcases hu with rfl | rfl | rfl | rfl | rfl | rfl | rfl | rfl | rfl | rfl <;> rfl) (by decide) (by unfold maxLen; omega) (by omega) (by simp <;> omega) _ rfl ?_
         intro gc cap2 w4 hown4 hgrow _ _
         try simp only [Nat.zero_add, List.nil_append] at hown4
         have hg4 : World.grownBy _ w4 (some (w2.heap.size + 1)) := hgrow
         have hl4 := X2.lt
         have X4 := Row10.grown (Row10.alloc (Row10.alloc (Row10.alloc X2 _) _) _) hg4 (by simp <;> omega)
         have Y4 := Row10.grown (Row10.alloc (Row10.alloc (Row10.new w2 _ _ _ _ _ _ _ _ _ _) _) _) hg4 (by simp)
         have B4 := Lib.hid (Below.grown (bal (bal (bal B2.out _) _) _) hg4 (bal (bal (bal B2.out _) _) _).size (by intro q hq; cases hq; omega))
         have hgc := own_base6 hown4
         clear hgrow hg4
         obtain ⟨t0, t1, t2, t3, t4, t5, t6, t7, t8, t9⟩ := Y4.parts
         have u8 := Y4.free 8
         have z0 := cell_set_other X4.parts.1 (b := w2.heap.size) (i := 8) (show w.heap.size ≠ w2.heap.size by omega)))
    have OWN5 := own_set6 hown4 (b := w2.heap.size) (i := 8) (by omega) (.slice (some ⟨gc, 0, none⟩) 1 cap2)
    have B5 := Lib.hid (Below.setCell B4.out (p := ⟨w2.heap.size, 8, none⟩) B2.out.size (.slice (some ⟨gc, 0, none⟩) 1 cap2))
    have Y5 := Row10.set8 Y4 (.slice (some ⟨gc, 0, none⟩) 1 cap2)
    have X5 := Row10.set X4 (c := w2.heap.size) (i := 8) (by omega) (.slice (some ⟨gc, 0, none⟩) 1 cap2)
    go_name_world w5 hw5
    have OWN6 := Lib.hid (own_mono6 OWN5 (show w.heap.size ≤ w2.heap.size + 1 by have := X2.lt; omega))
    have C5 := B5.out
    have D5 := OWN6.out
    clear OWN5 OWN6 B5
    have C6 : Below w.heap.size w w5 := by rw [← hw5]; exact C5
    have D6 : w5.ownsRow w.heap.size 30 10 (.slice (some ⟨gc, 0, none⟩) 1 cap2) 1 ((#[.int .i64 1, .bool false, .int .u64 0, .int .u64 0, .int .u64 0, .int .u64 0, .int .u64 0, .string ⟨#[]⟩, .slice none 0 0, .slice none 0 0] : Array Value).toList) := by rw [← hw5]; exact D5
    have Y6 := Y5
    have X6 := X5
    rw [hw5] at Y6 X6
    clear hw5 C5 D5 Y5 X5 t0 t1 t2 t3 t4 t5 t6 t7 t8 t9 p0 p1 p2 p3 p4 p5 p6 p7 p8 p9 u8 z0 hown4 hgc X4 Y4 B4 e0
    have B6 := Lib.hid C6; have OWN6 := Lib.hid D6
    clear C6 D6
    obtain ⟨p0, p1, p2, p3, p4, p5, p6, p7, p8, p9⟩ := X6.parts
    obtain ⟨t0, t1, t2, t3, t4, t5, t6, t7, t8, t9⟩ := Y6.parts
    have zp0 := cell_regrown p0; have zp1 := cell_regrown p1; have zp2 := cell_regrown p2; have zp3 := cell_regrown p3; have zp4 := cell_regrown p4; have zp5 := cell_regrown p5; have zp6 := cell_regrown p6; have zp7 := cell_regrown p7; have zp8 := cell_regrown p8; have zp9 := cell_regrown p9
    have zt0 := cell_regrown t0; have zt1 := cell_regrown t1; have zt2 := cell_regrown t2; have zt3 := cell_regrown t3; have zt4 := cell_regrown t4; have zt5 := cell_regrown t5; have zt6 := cell_regrown t6; have zt7 := cell_regrown t7; have zt8 := cell_regrown t8; have zt9 := cell_regrown t9
    clear t0 t1 t2 t3 t4 t5 t6 t7 t8 t9 p0 p1 p2 p3 p4 p5 p6 p7 p8 p9
    have cq0 := fun (d : Nat) (os : Array Obj) => Calls.regrown_of (w := w5) (d := d) (os := os) (told6_true _ (tb_on HT.out (btr B6.out (below_regrown w5 d os))))
    have cq1 := fun (d : Nat) (os : Array Obj) => Calls.regrown_of (w := w5) (d := d) (os := os) (K3.out _ gc cap2 (own_keep6 OWN6.out (below_regrown w5 d os)) (btr B6.out (below_regrown w5 d os)))
    have cq2 := fun (d : Nat) (os : Array Obj) => Calls.regrown_of (w := w5) (d := d) (os := os) (K4.out _ (btr B6.out (below_regrown w5 d os)))
    refine wp_region_quiet_below (by kernel_rfl) (by kernel_rfl) ?_
    repeat (first | go_big_quiet_step ((first | with_reducible exact cq0 _ _ | with_reducible exact cq1 _ _ | with_reducible exact cq2 _ _)) | quiet_step (first | with_reducible exact cq0 _ _ | with_reducible exact cq1 _ _ | with_reducible exact cq2 _ _))
    refine wpQuiet_nil ?_
    intro _ hw'
    obtain ⟨⟨dq, osq⟩, hw''⟩ := hw'
    subst hw''
    have BV := Lib.hid (btr B6.out (below_regrown w5 dq osq))
    clear zp0 zp1 zp2 zp3 zp4 zp5 zp6 zp7 zp8 zp9 zt0 zt1 zt2 zt3 zt4 zt5 zt6 zt7 zt8 zt9 cq0 cq1 cq2
    generalize grow (redrawn w5 dq) osq = w9 at *
    go_wp2
    go_ret
    exact ⟨rfl, BV.out⟩
end Go.Proofs.YtgklokjilfeklaaDoor
end
section
namespace Go.Proofs.YtgklokjilfeklaaDoor
open Go.RowKit Go.Shelf

theorem over_small {o : Own} {n : Nat} (ht : o.text.size ≤ 4096) (hn : n ≤ 1000) (hk : o.keys.length ≤ 1000) (hs : ∀ s ∈ o.keys, s.size ≤ 4096) : overB o n = false := by
  have hany : (o.keys.any fun s => decide (4096 < s.size)) = false := by
    rw [List.any_eq_false]
    intro s h
    have := hs s h
    simp; omega
  unfold overB
  split
  · exact decide_eq_false (by omega)
  split
  · exact decide_eq_false (by omega)
  split
  · rw [hany, decide_eq_false (by omega)]; rfl
  · rfl
theorem may_one {T : VT} (hd : T.depth ≤ 16) (ho : hasT overT T = false) (hw : ownB T.o T.kids.length = false) : mayN T = 1 := by
  unfold mayN
  rw [if_neg (by omega), ho, if_neg (by simp), hasT_mk]
  have : wrongT T = true := by unfold wrongT; rw [hw]; rfl
  rw [this]; rfl
theorem may_none {T : VT} (hd : T.depth ≤ 16) (ho : hasT overT T = false) (hw : ownB T.o T.kids.length = true) (hk : ∀ t ∈ T.kids, hasT wrongT t = false) : mayN T = 0 := by
  unfold mayN
  rw [if_neg (by omega), ho, if_neg (by simp), hasT_mk]
  have : wrongT T = false := by unfold wrongT; rw [hw]; rfl
  have h2 : T.kids.any (hasT wrongT) = false := by rw [List.any_eq_false]; intro t ht; rw [hk t ht]; simp
  rw [this, h2]; rfl
theorem over_kids {o : Own} {l : List VT} (h : ∀ t ∈ l, hasT overT t = false) (ho : overB o l.length = false) : hasT overT (.mk o l) = false := by
  rw [hasT_mk]
  have h2 : l.any (hasT overT) = false := by rw [List.any_eq_false]; intro t ht; rw [h t ht]; simp
  show (overB o l.length || l.any (hasT overT)) = false
  rw [ho, h2]; rfl
theorem own_two {o : Own} {n : Nat} (h : ownB o n = true) : outB o n = true ∧ restB o n = true := by unfold ownB at h; rwa [Bool.and_eq_true] at h
theorem own_no {o : Own} {n : Nat} (h : ownB o n = true → False) : ownB o n = false := by
  cases hh : ownB o n with
  | false => rfl
  | true => exact (h hh).elim

section
variable {o : Own} {n : Nat} (hx : o.x < 2 ^ 256) (hw : ownB o n = true)
include hx hw
theorem own_k9 : ownB { o with kind := 9 } n = false := own_no fun h => by
  have _h := hx
  have _h2 := hw
  have := own_kind h
  simp at this
theorem own_neg (h3 : o.kind ≠ 3) : ownB { o with g := !o.g } n = false := own_no fun h => by
  obtain ⟨a, _⟩ := (out_facts hx (own_two hw).1).1 h3
  obtain ⟨b, _⟩ := (out_facts (o := { o with g := !o.g }) hx (own_two h).1).1 h3
  simp only at b
  rw [a] at b
  cases b
theorem own_neg0 (h3 : o.kind = 3) (h0 : o.x = 0) : ownB { o with g := !o.g } n = false := own_no fun h => by
  have a := own_okI hw hx h3
  have b := own_okI h hx h3
  simp only at b
  cases hg : o.g with
  | true => exact a ⟨hg, h0⟩
  | false => exact b ⟨by rw [hg]; rfl, h0⟩
theorem own_neg1 (h3 : o.kind = 3) (h0 : o.x ≠ 0) : ownB { o with g := !o.g } n = true := by
  have a := (own_two hw).1
  unfold ownB
  rw [Bool.and_eq_true]
  constructor
  · unfold outB at a ⊢
    simp only at a ⊢
    rw [if_neg (by omega), if_pos h3] at a ⊢
    obtain ⟨p1, p2, p3⟩ := eqO_parts.1 a
    exact eqO_parts.2 ⟨rfl, by simp [eq5, eq4], p3⟩
  · unfold restB
    simp only
    rw [if_neg (by omega), if_neg (by omega), if_pos h3]
    unfold okI
    have := eq5_int (!o.g) true o.x 0 hx (by decide)
    simp only [lb_zero] at this
    rw [this, decide_eq_false (fun e => h0 e.2)]; rfl
theorem own_bits (h4 : o.kind ≠ 4) : ownB { o with bits := 2 } n = false := own_no fun h => by
  have _h := hw
  by_cases h2 : o.kind = 2
  · have b := (own_two h).2
    unfold restB at b
    simp only at b
    rw [if_neg (by omega), if_pos h2] at b
    simp at b
  · have b := (out_facts (o := { o with bits := 2 }) hx (own_two h).1).2.1 h2 h4
    simp at b
theorem own_bits4 (h4 : o.kind = 4) (hm : mayF 2 = true) : ownB { o with bits := 2 } n = true := by
  have _h := hx
  have a := (own_two hw).1
  unfold ownB
  rw [Bool.and_eq_true]
  constructor
  · unfold outB at a ⊢
    simp only at a ⊢
    rw [if_pos (.inr h4)] at a ⊢
    obtain ⟨p1, p2, p3, p4⟩ := eqO_parts.1 a
    exact eqO_parts.2 ⟨rfl, p2, rfl, p4⟩
  · unfold restB
    simp only
    rw [if_neg (by omega), if_neg (by omega), if_neg (by omega), if_pos h4]
    exact hm
theorem own_text (h6 : o.kind ≠ 6) : ownB { o with text := ⟨#[255]⟩ } n = false := own_no fun h => by
  have _h := hw
  by_cases h5 : o.kind = 5
  · have b := (own_two h).2
    unfold restB at b
    simp only at b
    rw [if_neg (by omega), if_neg (by omega), if_neg (by omega), if_neg (by omega), if_pos h5] at b
    exact absurd b (by decide +kernel)
  · have b := (out_facts (o := { o with text := ⟨#[255]⟩ }) hx (own_two h).1).2.2.1 h5 h6
    simp only at b
    exact absurd b (by first | decide +kernel | simp [ByteArray.toList, ByteArray.toList.loop])
theorem own_text6 (h6 : o.kind = 6) : ownB { o with text := ⟨#[255]⟩ } n = true := by
  have _h := hx
  have a := (own_two hw).1
  unfold ownB
  rw [Bool.and_eq_true]
  constructor
  · unfold outB at a ⊢
    simp only at a ⊢
    rw [if_neg (by omega), if_neg (by omega), if_pos (.inr h6)] at a ⊢
    obtain ⟨p1, p2, p3, p4, p5⟩ := eqO_parts.1 a
    exact eqO_parts.2 ⟨rfl, p2, p3, rfl, p5⟩
  · unfold restB
    simp only
    rw [if_pos (by omega)]
theorem own_keys (a : Option Addr) (c : Nat) (s : ByteArray) : ownB { o with ka := a, kcap := c, keys := o.keys ++ [s] } n = false := own_no fun h => by
  by_cases h8 : o.kind = 8
  · have b := (own_two h).2
    have b0 := (own_two hw).2
    unfold restB at b b0
    simp only at b b0
    rw [if_neg (by omega), if_neg (by omega), if_neg (by omega), if_neg (by omega), if_neg (by omega), if_pos h8, Bool.and_eq_true, decide_eq_true_iff] at b b0
    have := b.1
    rw [List.length_append] at this
    have := b0.1
    simp at *
    omega
  · have b := (out_facts (o := { o with ka := a, kcap := c, keys := o.keys ++ [s] }) hx (own_two h).1).2.2.2.1 h8
    simp at b
theorem own_list (a : Option Addr) (c : Nat) (h7 : o.kind ≠ 7) : ownB { o with la := a, lcap := c } (n + 1) = false := own_no fun h => by
  by_cases h8 : o.kind = 8
  · have b := (own_two h).2
    have b0 := (own_two hw).2
    unfold restB at b b0
    simp only at b b0
    rw [if_neg (by omega), if_neg (by omega), if_neg (by omega), if_neg (by omega), if_neg (by omega), if_pos h8, Bool.and_eq_true, decide_eq_true_iff] at b b0
    have := b.1
    have := b0.1
    omega
  · have b := (out_facts (o := { o with la := a, lcap := c }) hx (own_two h).1).2.2.2.2 h7 h8
    omega
end
theorem mayF_two : mayF 2 = true := by decide +kernel
theorem depth_own (o o' : Own) (l : List VT) : (VT.mk o' l).depth = (VT.mk o l).depth := by rw [VT.depth_mk, VT.depth_mk]
theorem nodes_own (o o' : Own) (l : List VT) : (VT.mk o' l).nodes = (VT.mk o l).nodes := by rw [VT.nodes_mk, VT.nodes_mk]
theorem nodes_more (o o' : Own) (l : List VT) : (VT.mk o' (l ++ [leafT 1 0])).nodes = (VT.mk o l).nodes + 1 := by
  rw [VT.nodes_mk, VT.nodes_mk, List.map_append, List.sum_append]
  show 1 + ((l.map VT.nodes).sum + ([(leafT 1 0).nodes]).sum) = _
  rw [leafT_nodes]
  simp; omega
theorem depth_more (o o' : Own) (l : List VT) (h : (VT.mk o l).depth ≤ 16) : (VT.mk o' (l ++ [leafT 1 0])).depth ≤ 16 := by
  rw [VT.depth_mk] at h ⊢
  rw [List.map_append, List.foldl_append]
  show 1 + max ((l.map VT.depth).foldl max 0) (leafT 1 0).depth ≤ 16
  rw [leafT_depth]
  omega
theorem may_depth {T : VT} (h : mayN T = 0) : T.depth ≤ 16 := by
  unfold mayN at h
  by_cases h1 : 16 < T.depth
  · rw [if_pos h1] at h; cases h
  · omega
theorem turn_mod (i : Int) : ∃ c : Int, IntKind.i64.wrap ((IntKind.u64.wrap i).tmod 6) = c ∧ (c = 0 ∨ c = 1 ∨ c = 2 ∨ c = 3 ∨ c = 4 ∨ c = 5) := by
  have hu : 0 ≤ IntKind.u64.wrap i := by simp only [IntKind.wrap, IntKind.signed, IntKind.bits]; simp; omega
  have ht : 0 ≤ (IntKind.u64.wrap i).tmod 6 ∧ (IntKind.u64.wrap i).tmod 6 < 6 := by
    rw [Int.tmod_eq_emod_of_nonneg hu]
    exact ⟨Int.emod_nonneg _ (by omega), Int.emod_lt_of_pos _ (by omega)⟩
  exact ⟨(IntKind.u64.wrap i).tmod 6, IntWalk.i64_in _ (by omega), by omega⟩
end Go.Proofs.YtgklokjilfeklaaDoor
end
section
namespace Go.Proofs.YtgklokjilfeklaaDoor
open Go.RowKit Go.Shelf

/-- The new row of names lies in memory. -/
theorem keys_row {W : World} {base g cap : Nat} {l : List ByteArray} {n : Nat} (hl : l.length = n) (h : W.ownsRow base 9 1 (.slice (some ⟨g, 0, none⟩) n cap) n (l.map Value.string)) : KeysAt W (some ⟨g, 0, none⟩) l := by
  refine ⟨g, 0, fun _ => rfl, fun i s hs => ?_⟩
  have hlt : i < n := by rw [← hl]; exact (List.getElem?_eq_some_iff.1 hs).1
  have := h.cellAt i (by omega)
  rw [List.getElem?_map, hs] at this
  simpa using this
theorem kids_row {W : World} {base g cap : Nat} {l : List VT} {n : Nat} (hl : l.length = n) (h : W.ownsRow base 30 10 (.slice (some ⟨g, 0, none⟩) n cap) n (newsV l)) : KidsAt W (some ⟨g, 0, none⟩) l := by
  refine ⟨g, 0, fun _ => rfl, fun i t hi j u hu => ?_⟩
  have hlt : i < n := by rw [← hl]; exact (List.getElem?_eq_some_iff.1 hi).1
  have hj : j < 10 := by have := (List.getElem?_eq_some_iff.1 hu).1; rwa [VT.cells_length] at this
  have := h.cellAt (i * 10 + j) (by omega)
  have e : ∀ (l : List VT) (i : Nat), l[i]? = some t → (newsV l)[i * 10 + j]? = some u := by
    intro l
    induction l with
    | nil => intro i h; simp at h
    | cons a l ih =>
      intro i h
      have e : newsV (a :: l) = a.cells ++ newsV l := by unfold newsV; rw [List.flatMap_cons]
      rw [e]
      cases i with
      | zero =>
        simp at h
        subst h
        rw [List.getElem?_append_left (by rw [VT.cells_length]; omega)]
        simpa using hu
      | succ i =>
        rw [List.getElem?_append_right (by rw [VT.cells_length]; omega), VT.cells_length]
        have := ih i (by simpa using h)
        rwa [show (i + 1) * 10 + j - 10 = i * 10 + j by omega]
  rw [e l i hi] at this
  simpa using this
theorem row_cap {W : World} {base g cap n size : Nat} {e : TypeId} {xs : List Value} (h : W.ownsRow base e size (.slice (some ⟨g, 0, none⟩) n cap) n xs) : n ≤ cap ∧ cap ≤ maxLen := by
  rcases h.2 with ⟨h3, _⟩ | ⟨g', cap', cur, h3, _, _, h5, h6, _⟩
  · cases h3
  · cases h3; exact ⟨h5, h6⟩
theorem newsV_null (l : List VT) : newsV l ++ (#[.int .i64 1, .bool false, .int .u64 0, .int .u64 0, .int .u64 0, .int .u64 0, .int .u64 0, .string ⟨#[]⟩, .slice none 0 0, .slice none 0 0] : Array Value).toList = newsV (l ++ [leafT 1 0]) := by
  unfold newsV
  rw [List.flatMap_append]
  congr 1

set_option maxHeartbeats 4000000 in
/-- The law, for any value and any way. -/
theorem turned_any (T : VT) (i : Int) (w : World) (hI : T.In w) (hT : Tb w) :
    Calls Tryd.prog 5 #[T.val, .int .i64 i] w fun e w' => e = .returned (.bool true) ∧ Below w.heap.size w w' := by
  have k1 := fun W (hb : Below w.heap.size w W) => vfew T W (hI.keep hb)
  cases hf : fewOk T with
  | false =>
    rw [hf] at k1
    obtain ⟨o, kids⟩ := T
    exact turned_told1 _ _ _ _ _ _ _ _ _ _ _ _ _ _ i w hT k1
  | true =>
  rw [hf] at k1
  obtain ⟨hQ, hn, hd, hE⟩ := few_all hf hI hT
  have k2 := fun W (hb : Below w.heap.size w W) => r6may_few T W (hQ.keep hb) hn hd hE
  by_cases hm : mayN T = 0
  case neg =>
    obtain ⟨o, kids⟩ := T
    exact turned_told2 _ _ _ _ _ _ _ _ _ _ _ _ _ _ i w hT _ (bne_iff_ne.2 hm) k1 k2
  rw [hm] at k2
  have hd16 := may_depth hm
  have ho := tiny_over T hE (by omega)
  have hw : hasT wrongT T = false := by
    unfold mayN at hm
    rw [if_neg (by omega), ho, if_neg (by simp)] at hm
    cases h3 : hasT wrongT T with
    | true => rw [h3, if_pos rfl] at hm; cases hm
    | false => rfl
  obtain ⟨o, kids⟩ := T
  have hx := hI.wf.2.1
  have hlk := VT.length_nodes o kids
  have hown : ownB o kids.length = true := by have := (hasT_false hw).1; unfold wrongT at this; simpa using this
  have hok := (hasT_false ho).2
  have hwk := (hasT_false hw).2
  obtain ⟨ht1, ht2, ht3⟩ := hE.own
  obtain ⟨ws1, ws2, ws3, ws4, ws5, ws6, ws7⟩ := hI.wf
  simp only [VT.o_mk, VT.kids_mk] at hx hown hok hwk ws1 ws2 ws3 ws4 ws5 ws6 ws7
  -- the turned ones with the same lists
  have same : ∀ (o' : Own), o'.la = o.la → o'.lcap = o.lcap → o'.ka = o.ka → o'.kcap = o.kcap → o'.keys = o.keys → o'.WF kids.length → o'.text.size ≤ 300 → ∀ W, Below w.heap.size w W → Calls Tryd.prog 15 #[(VT.mk o' kids).val] W fun e w' => e = .returned (.int .i64 (if ownB o' kids.length then 0 else 1)) ∧ Below W.heap.size W w' := fun o' e1 e2 e3 e4 e5 hwf htx W hb => by
    have hin : (VT.mk o' kids).In W := by
      have hk := (hI.keep hb).hk
      have hl := (hI.keep hb).hl
      simp only [VT.o_mk, VT.kids_mk] at hk hl
      exact .mk o' kids hwf (by rw [e3, e5]; exact hk) (by rw [e1]; exact hl) (fun j t hj => (hI.keep hb).kid hj)
    have hq : Qv (.mk o' kids) W := ⟨hin, tb_on hT hb, .mk o' kids ⟨by omega, by rw [e5]; exact hQ.small.own.2⟩ (fun t ht => hQ.small.mem ht)⟩
    have := vmay (.mk o' kids) (by rw [nodes_own o o']; omega) W hq
    have hov : hasT overT (.mk o' kids) = false := over_kids hok (over_small (by omega) (by omega) (by rw [e5]; omega) (by rw [e5]; intro s hs; have := ht3 s hs; omega))
    have hdd : (VT.mk o' kids).depth ≤ 16 := by rw [depth_own o o']; exact hd16
    cases hb2 : ownB o' kids.length with
    | true => rw [may_none hdd hov hb2 hwk] at this; exact this
    | false => rw [may_one hdd hov hb2] at this; exact this
  obtain ⟨c, hc, hcc⟩ := turn_mod i
  rcases hcc with rfl | rfl | rfl | rfl | rfl | rfl
  · have k3 := same { o with kind := 9 } rfl rfl rfl rfl rfl ⟨by simp, ws2, ws3, ws4, ws5, ws6, ws7⟩ ht1
    rw [own_k9 hx hown] at k3
    exact turned_kind _ _ _ _ _ _ _ _ _ _ _ _ _ _ i w hT hc k1 k2 k3
  · have k3 := same { o with g := !o.g } rfl rfl rfl rfl rfl ⟨ws1, ws2, ws3, ws4, ws5, ws6, ws7⟩ ht1
    by_cases h3 : o.kind = 3
    · by_cases h0 : o.x = 0
      · rw [own_neg0 hx hown h3 h0] at k3
        have hz : eq4 (lb 0 o.x) (lb 1 o.x) (lb 2 o.x) (lb 3 o.x) 0 0 0 0 = true := by rw [h0]; simp only [lb_zero]; rfl
        obtain ⟨kd, g, x, b, s, la, lc, ka, kc, ks⟩ := o
        obtain rfl : kd = 3 := h3
        exact turned_neg0 _ _ _ _ _ _ _ _ _ _ _ _ _ i w hT hc hz k1 k2 k3
      · rw [own_neg1 hx hown h3 h0] at k3
        have hz : eq4 (lb 0 o.x) (lb 1 o.x) (lb 2 o.x) (lb 3 o.x) 0 0 0 0 = false := (shl_zero_number o.x hx).trans (decide_eq_false h0)
        have k4 := fun W (hb : Below w.heap.size w W) => vsame (.mk o kids) (.mk { o with g := !o.g } kids) W (hI.keep hb) (by
          have hk := (hI.keep hb).hk
          have hl := (hI.keep hb).hl
          exact .mk _ kids ⟨ws1, ws2, ws3, ws4, ws5, ws6, ws7⟩ hk hl (fun j t hj => (hI.keep hb).kid hj))
        have hs : sameT (.mk o kids) (.mk { o with g := !o.g } kids) = false := by
          rw [sameT]
          have : eqO o.kind o.g (lb 0 o.x) (lb 1 o.x) (lb 2 o.x) (lb 3 o.x) o.bits o.text (o.keys.length : Int) (kids.length : Int) o.kind (!o.g) (lb 0 o.x) (lb 1 o.x) (lb 2 o.x) (lb 3 o.x) o.bits o.text (o.keys.length : Int) (kids.length : Int) = false := by
            cases hg : o.g <;> simp [eqO, eq5]
          show (eqO o.kind o.g (lb 0 o.x) (lb 1 o.x) (lb 2 o.x) (lb 3 o.x) o.bits o.text (o.keys.length : Int) (kids.length : Int) o.kind (!o.g) (lb 0 o.x) (lb 1 o.x) (lb 2 o.x) (lb 3 o.x) o.bits o.text (o.keys.length : Int) (kids.length : Int) && _) = false
          rw [this]; rfl
        rw [hs] at k4
        obtain ⟨kd, g, x, b, s, la, lc, ka, kc, ks⟩ := o
        obtain rfl : kd = 3 := h3
        exact turned_neg1 _ _ _ _ _ _ _ _ _ _ _ _ _ i w hT hc hz k1 k2 k3 k4
    · rw [own_neg hx hown h3] at k3
      exact turned_neg _ _ _ _ _ _ _ _ _ _ _ _ _ _ i w hT hc (beq_eq_false_iff_ne.2 h3) k1 k2 k3
  · have k3 := same { o with bits := 2 } rfl rfl rfl rfl rfl ⟨ws1, ws2, by simp, ws4, ws5, ws6, ws7⟩ ht1
    by_cases h4 : o.kind = 4
    · rw [own_bits4 hx hown h4 mayF_two] at k3
      have k4 := fun W (hb : Below w.heap.size w W) => rmayf 2 (by omega) W
      rw [mayF_two] at k4
      obtain ⟨kd, g, x, b, s, la, lc, ka, kc, ks⟩ := o
      obtain rfl : kd = 4 := h4
      exact turned_bits4 _ _ _ _ _ _ _ _ _ _ _ _ _ i w hT hc k1 k2 k3 k4
    · rw [own_bits hx hown h4] at k3
      exact turned_bits _ _ _ _ _ _ _ _ _ _ _ _ _ _ i w hT hc (beq_eq_false_iff_ne.2 h4) k1 k2 k3
  · have k3 := same { o with text := ⟨#[255]⟩ } rfl rfl rfl rfl rfl ⟨ws1, ws2, ws3, by show (⟨#[255]⟩ : ByteArray).size ≤ maxLen; decide, ws5, ws6, ws7⟩ (by show (⟨#[255]⟩ : ByteArray).size ≤ 300; decide)
    by_cases h6 : o.kind = 6
    · rw [own_text6 hx hown h6] at k3
      obtain ⟨kd, g, x, b, s, la, lc, ka, kc, ks⟩ := o
      obtain rfl : kd = 6 := h6
      exact turned_text6 _ _ _ _ _ _ _ _ _ _ _ _ _ i w hT hc k1 k2 k3
    · rw [own_text hx hown h6] at k3
      exact turned_text _ _ _ _ _ _ _ _ _ _ _ _ _ _ i w hT hc (beq_eq_false_iff_ne.2 h6) k1 k2 k3
  · have key : ∀ W gb cap, W.ownsRow w.heap.size 9 1 (.slice (some ⟨gb, 0, none⟩) (o.keys.length + 1) cap) (o.keys.length + 1) ((o.keys ++ [(⟨#[126, 126, 126, 126, 126, 126, 126, 126]⟩ : ByteArray)]).map Value.string) → Below w.heap.size w W →
        Calls Tryd.prog 15 #[V10 o.kind o.g (lb 0 o.x) (lb 1 o.x) (lb 2 o.x) (lb 3 o.x) o.bits o.text o.la kids.length o.lcap (some ⟨gb, 0, none⟩) (o.keys.length + 1) cap] W fun e w' => e = .returned (.int .i64 1) ∧ Below W.heap.size W w' := fun W gb cap hr hb => by
      have hll : (o.keys ++ [(⟨#[126, 126, 126, 126, 126, 126, 126, 126]⟩ : ByteArray)]).length = o.keys.length + 1 := by simp
      obtain ⟨hc1, hc2⟩ := row_cap hr
      have hin : (VT.mk { o with ka := some ⟨gb, 0, none⟩, kcap := cap, keys := o.keys ++ [(⟨#[126, 126, 126, 126, 126, 126, 126, 126]⟩ : ByteArray)] } kids).In W :=
        .mk { o with ka := some ⟨gb, 0, none⟩, kcap := cap, keys := o.keys ++ [(⟨#[126, 126, 126, 126, 126, 126, 126, 126]⟩ : ByteArray)] } kids ⟨ws1, ws2, ws3, ws4, ws5, ⟨by show (o.keys ++ [(⟨#[126, 126, 126, 126, 126, 126, 126, 126]⟩ : ByteArray)]).length ≤ cap; rw [hll]; exact hc1, hc2⟩, fun t ht => by
          rcases List.mem_append.1 ht with ht | ht
          · exact ws7 t ht
          · simp at ht; subst ht; decide⟩ (keys_row hll hr) (hI.keep hb).hl (fun j t hj => (hI.keep hb).kid hj)
      have hq : Qv (VT.mk { o with ka := some ⟨gb, 0, none⟩, kcap := cap, keys := o.keys ++ [(⟨#[126, 126, 126, 126, 126, 126, 126, 126]⟩ : ByteArray)] } kids) W := ⟨hin, tb_on hT hb, .mk _ kids ⟨hQ.small.own.1, fun t ht => by
        rcases List.mem_append.1 ht with ht | ht
        · exact hQ.small.own.2 t ht
        · simp at ht; subst ht; decide⟩ (fun t ht => hQ.small.mem ht)⟩
      have := vmay _ (by rw [nodes_own o]; omega) W hq
      rw [may_one (by rw [depth_own o]; exact hd16) (over_kids hok (over_small (by show o.text.size ≤ 4096; omega) (by omega) (by show (o.keys ++ [(⟨#[126, 126, 126, 126, 126, 126, 126, 126]⟩ : ByteArray)]).length ≤ 1000; rw [hll]; omega) (fun t ht => by
        rcases List.mem_append.1 ht with ht | ht
        · have := ht3 t ht; omega
        · simp at ht; subst ht; decide))) (own_keys hx hown _ _ _)] at this
      rw [val_eq] at this
      simp only [hll] at this
      exact this
    by_cases h0 : o.keys.length = 0
    · obtain ⟨kd, g, x, b, s, la, lc, ka, kc, ks⟩ := o
      obtain rfl : ks = [] := List.eq_nil_of_length_eq_zero h0
      exact turned_keys0 _ _ _ _ _ _ _ _ _ _ _ _ _ i w hT hc k1 k2 (fun W gb cap hr hb => key W gb cap hr hb)
    · obtain ⟨kb, koff, hK⟩ := hI.keys'
      have hka := hK.ka (by omega)
      obtain ⟨kd, g, x, b, s, la, lc, ka, kc, ks⟩ := o
      obtain rfl : ka = some ⟨kb, koff, none⟩ := hka
      exact turned_keys _ _ _ _ _ _ _ _ _ _ _ _ kb koff ks i w hT hc (Nat.pos_of_ne_zero h0) ht2 hK k1 k2 (fun W gb cap hr hb => key W gb cap (by rw [List.map_append]; exact hr) hb)
  · have inn : ∀ W gb cap, W.ownsRow w.heap.size 30 10 (.slice (some ⟨gb, 0, none⟩) (kids.length + 1) cap) (kids.length + 1) (newsV (kids ++ [leafT 1 0])) → Below w.heap.size w W →
        (VT.mk { o with la := some ⟨gb, 0, none⟩, lcap := cap } (kids ++ [leafT 1 0])).In W := fun W gb cap hr hb => by
      have hll : (kids ++ [leafT 1 0]).length = kids.length + 1 := by simp
      obtain ⟨hc1, hc2⟩ := row_cap hr
      refine .mk { o with la := some ⟨gb, 0, none⟩, lcap := cap } (kids ++ [leafT 1 0]) ⟨ws1, ws2, ws3, ws4, ⟨by rw [hll]; exact hc1, hc2⟩, ws6, ws7⟩ (hI.keep hb).hk (kids_row hll hr) (fun j t hj => ?_)
      rcases List.mem_append.1 (List.mem_of_getElem? hj) with ht | ht
      · exact (hI.keep hb).mem ht
      · simp at ht; subst ht; exact leafT_in 1 0 (by omega) (by omega) W
    have hll : (kids ++ [leafT 1 0]).length = kids.length + 1 := by simp
    have key : o.kind ≠ 7 → ∀ W gb cap, W.ownsRow w.heap.size 30 10 (.slice (some ⟨gb, 0, none⟩) (kids.length + 1) cap) (kids.length + 1) (newsV (kids ++ [leafT 1 0])) → Below w.heap.size w W →
        Calls Tryd.prog 15 #[V10 o.kind o.g (lb 0 o.x) (lb 1 o.x) (lb 2 o.x) (lb 3 o.x) o.bits o.text (some ⟨gb, 0, none⟩) (kids.length + 1) cap o.ka o.keys.length o.kcap] W fun e w' => e = .returned (.int .i64 1) ∧ Below W.heap.size W w' := fun h7 W gb cap hr hb => by
      have hin := inn W gb cap hr hb
      have hleaf : (leafT 1 0).Every SmallO := .mk _ _ ⟨Nat.zero_le _, fun s h => by cases h⟩ (fun t h => by cases h)
      have hq : Qv (VT.mk { o with la := some ⟨gb, 0, none⟩, lcap := cap } (kids ++ [leafT 1 0])) W := ⟨hin, tb_on hT hb, .mk _ _ ⟨hQ.small.own.1, hQ.small.own.2⟩ (fun t ht => by
        rcases List.mem_append.1 ht with ht | ht
        · exact hQ.small.mem ht
        · simp at ht; subst ht; exact hleaf)⟩
      have := vmay _ (by rw [nodes_more o]; omega) W hq
      rw [may_one (depth_more o _ _ hd16) (over_kids (fun t ht => by
        rcases List.mem_append.1 ht with ht | ht
        · exact hok t ht
        · simp at ht; subst ht; rw [leafT_has]; decide) (over_small (by show o.text.size ≤ 4096; omega) (by rw [hll]; omega) (by show o.keys.length ≤ 1000; omega) (fun t ht => by have := ht3 t ht; omega))) (by
        show ownB _ (kids ++ [leafT 1 0]).length = false
        rw [hll]; exact own_list hx hown _ _ h7)] at this
      rw [val_eq] at this
      simp only [hll] at this
      exact this
    have nod : ∀ W gb cap, W.ownsRow w.heap.size 30 10 (.slice (some ⟨gb, 0, none⟩) (kids.length + 1) cap) (kids.length + 1) (newsV (kids ++ [leafT 1 0])) → Below w.heap.size w W →
        Calls Tryd.prog 16 #[V10 o.kind o.g (lb 0 o.x) (lb 1 o.x) (lb 2 o.x) (lb 3 o.x) o.bits o.text (some ⟨gb, 0, none⟩) (kids.length + 1) cap o.ka o.keys.length o.kcap] W fun e w' => e = .returned (.int .i64 (((VT.mk o kids).nodes : Nat) + 1 : Int)) ∧ Below W.heap.size W w' := fun W gb cap hr hb => by
      have := vnodes _ (by rw [nodes_more o]; omega) W (inn W gb cap hr hb)
      rw [nodes_more o, val_eq] at this
      simp only [hll] at this
      exact this
    have k4 := fun W (hb : Below w.heap.size w W) => vnodes (.mk o kids) (by omega) W (hI.keep hb)
    have hN : IntKind.i64.wrap (((VT.mk o kids).nodes : Nat) + 1 : Int) = ((VT.mk o kids).nodes : Nat) + 1 := IntWalk.i64_in _ (by omega)
    generalize (((VT.mk o kids).nodes : Nat) : Int) = N at *
    by_cases h0 : kids.length = 0
    · obtain rfl : kids = [] := List.eq_nil_of_length_eq_zero h0
      by_cases h7 : o.kind = 7
      · obtain ⟨kd, g, x, b, s, la, lc, ka, kc, ks⟩ := o
        obtain rfl : kd = 7 := h7
        exact turned_nodes0 _ _ _ _ _ _ _ _ _ _ _ _ i w hT hc N hN k1 k2 (fun W gb cap hr hb => nod W gb cap (by rw [← newsV_null]; exact hr) hb) k4
      · have key7 := key h7
        obtain ⟨kd, g, x, b, s, la, lc, ka, kc, ks⟩ := o
        exact turned_list0 _ _ _ _ _ _ _ _ _ _ _ _ _ i w hT hc (beq_eq_false_iff_ne.2 h7) k1 k2 (fun W gb cap hr hb => key7 W gb cap (by rw [← newsV_null]; exact hr) hb)
    · obtain ⟨bb, off, hK⟩ := hI.kids'
      have hla := hK.la (by omega)
      by_cases h7 : o.kind = 7
      · obtain ⟨kd, g, x, b, s, la, lc, ka, kc, ks⟩ := o
        obtain rfl : kd = 7 := h7
        obtain rfl : la = some ⟨bb, off, none⟩ := hla
        exact turned_nodes _ _ _ _ _ _ _ _ _ _ _ bb off kids i w hT hc N hN (Nat.pos_of_ne_zero h0) (by omega) hK k1 k2 (fun W gb cap hr hb => nod W gb cap (by rw [← newsV_null]; exact hr) hb) k4
      · have key7 := key h7
        obtain ⟨kd, g, x, b, s, la, lc, ka, kc, ks⟩ := o
        obtain rfl : la = some ⟨bb, off, none⟩ := hla
        exact turned_list _ _ _ _ _ _ _ _ _ _ _ _ bb off kids i w hT hc (beq_eq_false_iff_ne.2 h7) (Nat.pos_of_ne_zero h0) (by omega) hK k1 k2 (fun W gb cap hr hb => key7 W gb cap (by rw [← newsV_null]; exact hr) hb)
end Go.Proofs.YtgklokjilfeklaaDoor
end
