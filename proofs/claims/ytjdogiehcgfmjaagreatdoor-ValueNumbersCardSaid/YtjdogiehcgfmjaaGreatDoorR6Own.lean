/-
  entrepotref1.May at any sign and number; entrepotref6.own, kind by kind.
-/
import Derived.Test.YtjdogiehcgfmjaaGreatDoorValOwn
import Derived.Test.YtjdogiehcgfmjaaGreatDoorGB
import Derived.Lib.QuietBelow
import Derived.BigQuiet
namespace Go.Proofs.YtjdogiehcgfmjaaGreatDoor
open Go.RowKit Go.Shelf
open Go.Sort (grow)
attribute [local go_sem ↓] eql_nat neq_nat eql_int5 neq_int5

theorem r6may_pos (x0 x1 x2 x3 : Int) (w : World) :
    Calls Tryz.prog 168 #[.agg #[.bool false, .int .u64 x0, .int .u64 x1, .int .u64 x2, .int .u64 x3]] w fun e w' => e = .returned (.bool true) ∧ Below w.heap.size w w' := by
  go_enter Tryz.func168, Tryz.ntmps168
  go_wp2
  go_ret
  exact ⟨rfl, bal (Below.refl _ _) _⟩
theorem r6may_neg (x0 x1 x2 x3 : Int) (w : World) :
    Calls Tryz.prog 168 #[.agg #[.bool true, .int .u64 x0, .int .u64 x1, .int .u64 x2, .int .u64 x3]] w fun e w' => e = .returned (.bool (!eq4 x0 x1 x2 x3 0 0 0 0)) ∧ Below w.heap.size w w' := by
  go_enter Tryz.func168, Tryz.ntmps168
  go_wp2
  go_ret
  exact ⟨rfl, bal (Below.refl _ _) _⟩
theorem r6may (g : Bool) (x : Nat) (w : World) :
    Calls Tryz.prog 168 #[.agg #[.bool g, .int .u64 (lb 0 x), .int .u64 (lb 1 x), .int .u64 (lb 2 x), .int .u64 (lb 3 x)]] w fun e w' => e = .returned (.bool (okI g x)) ∧ Below w.heap.size w w' := by
  cases g with
  | false => rw [show okI false x = true by simp [okI, eq5]]; exact r6may_pos _ _ _ _ w
  | true => rw [show okI true x = !eq4 (lb 0 x) (lb 1 x) (lb 2 x) (lb 3 x) 0 0 0 0 by simp [okI, eq5]]; exact r6may_neg _ _ _ _ w
theorem eq_ret {e : Ending} {b c : Bool} {P : Prop} (h : e = .returned (.bool b)) (hb : b = c) (hp : P) : e = .returned (.bool c) ∧ P := ⟨h.trans (ret_bool hb), hp⟩

set_option maxRecDepth 200000 in
set_option maxHeartbeats 4000000 in
theorem rown_k1 (g : Bool) (x0 x1 x2 x3 b : Int) (s : ByteArray) (la : Option Addr) (n lc : Nat) (ka : Option Addr) (m kc : Nat) (w : World) :
    Calls Tryz.prog 98 #[V10 1 g x0 x1 x2 x3 b s la n lc ka m kc] w fun e w' => e = .returned (.bool (eq5 g x0 x1 x2 x3 false 0 0 0 0 && ((b == 0) && (s.toList.isEmpty && (((n : Int) == 0) && ((m : Int) == 0)))))) ∧ Below w.heap.size w w' := by
  go_enter Tryz.func98, Tryz.ntmps98
  go_wp2
  all_goals
    go_ret
    refine eq_ret rfl ?_ (bal (Below.refl _ _) _)
    first | rfl | (simp_all; done) | (simp_all; intros; omega)
set_option maxRecDepth 200000 in
set_option maxHeartbeats 4000000 in
theorem rown_k2 (g : Bool) (x0 x1 x2 x3 b : Int) (s : ByteArray) (la : Option Addr) (n lc : Nat) (ka : Option Addr) (m kc : Nat) (hb0 : 0 ≤ b) (hb1 : b ≤ 18446744073709551615) (w : World) :
    Calls Tryz.prog 98 #[V10 2 g x0 x1 x2 x3 b s la n lc ka m kc] w fun e w' => e = .returned (.bool (eq5 g x0 x1 x2 x3 false 0 0 0 0 && (decide (b ≤ 1) && (s.toList.isEmpty && (((n : Int) == 0) && ((m : Int) == 0)))))) ∧ Below w.heap.size w w' := by
  go_enter Tryz.func98, Tryz.ntmps98
  go_wp2
  all_goals
    go_ret
    refine eq_ret rfl ?_ (bal (Below.refl _ _) _)
    first | rfl | (simp_all; done) | (simp_all; intros; omega)
set_option maxRecDepth 200000 in
set_option maxHeartbeats 4000000 in
theorem rown_k7 (g : Bool) (x0 x1 x2 x3 b : Int) (s : ByteArray) (la : Option Addr) (n lc : Nat) (ka : Option Addr) (m kc : Nat) (w : World) :
    Calls Tryz.prog 98 #[V10 7 g x0 x1 x2 x3 b s la n lc ka m kc] w fun e w' => e = .returned (.bool (eq5 g x0 x1 x2 x3 false 0 0 0 0 && ((b == 0) && (s.toList.isEmpty && ((m : Int) == 0))))) ∧ Below w.heap.size w w' := by
  go_enter Tryz.func98, Tryz.ntmps98
  go_wp2
  all_goals
    go_ret
    refine eq_ret rfl ?_ (bal (Below.refl _ _) _)
    first | rfl | (simp_all; done) | (simp_all; intros; omega)
set_option maxRecDepth 200000 in
set_option maxHeartbeats 4000000 in
theorem rown_k3 (g : Bool) (x0 x1 x2 x3 b : Int) (s : ByteArray) (la : Option Addr) (n lc : Nat) (ka : Option Addr) (m kc : Nat) (w : World) (q : Bool) (hc : ∀ W, Below w.heap.size w W → Calls Tryz.prog 168 #[.agg #[.bool g, .int .u64 x0, .int .u64 x1, .int .u64 x2, .int .u64 x3]] W fun e w' => e = .returned (.bool q) ∧ Below W.heap.size W w') :
    Calls Tryz.prog 98 #[V10 3 g x0 x1 x2 x3 b s la n lc ka m kc] w fun e w' => e = .returned (.bool (q && ((b == 0) && (s.toList.isEmpty && (((n : Int) == 0) && ((m : Int) == 0)))))) ∧ Below w.heap.size w w' := by
  have HC := Lib.hid hc; clear hc
  go_enter Tryz.func98, Tryz.ntmps98
  go_wp2_with fail
  all_goals
    first
    | ((with_reducible refine (HC.out _ (bal (Below.refl _ _) _)).mono ?_); rintro e w1 ⟨rfl, hb1⟩
       have X1 := Row10.keep hb1 (Row10.new w (.int .i64 3) (.bool g) (.int .u64 x0) (.int .u64 x1) (.int .u64 x2) (.int .u64 x3) (.int .u64 b) (.string s) (.slice la n lc) (.slice ka m kc))
       have B1 := Lib.hid (btr (bal (Below.refl w.heap.size w) _) hb1)
       obtain ⟨q0, q1, q2, q3, q4, q5, q6, q7, q8, q9⟩ := X1.parts
       clear hb1 X1
       go_wp2
       all_goals
         go_ret
         refine eq_ret rfl ?_ B1.out
         clear q0 q1 q2 q3 q4 q5 q6 q7 q8 q9
         first | rfl | (simp_all; done) | (simp_all; intros; omega))
    | (go_ret
       refine eq_ret rfl ?_ (bal (Below.refl _ _) _)
       first | rfl | (simp_all; done) | (simp_all; intros; omega))
set_option maxRecDepth 200000 in
set_option maxHeartbeats 4000000 in
theorem rown_k4 (g : Bool) (x0 x1 x2 x3 b : Int) (s : ByteArray) (la : Option Addr) (n lc : Nat) (ka : Option Addr) (m kc : Nat) (w : World) (q : Bool) (hc : ∀ W, Below w.heap.size w W → Calls Tryz.prog 169 #[.int .u64 b] W fun e w' => e = .returned (.bool q) ∧ Below W.heap.size W w') :
    Calls Tryz.prog 98 #[V10 4 g x0 x1 x2 x3 b s la n lc ka m kc] w fun e w' => e = .returned (.bool (eq5 g x0 x1 x2 x3 false 0 0 0 0 && (q && (s.toList.isEmpty && (((n : Int) == 0) && ((m : Int) == 0)))))) ∧ Below w.heap.size w w' := by
  have HC := Lib.hid hc; clear hc
  go_enter Tryz.func98, Tryz.ntmps98
  go_wp2_with fail
  all_goals
    first
    | ((with_reducible refine (HC.out _ (bal (Below.refl _ _) _)).mono ?_); rintro e w1 ⟨rfl, hb1⟩
       have X1 := Row10.keep hb1 (Row10.new w (.int .i64 4) (.bool g) (.int .u64 x0) (.int .u64 x1) (.int .u64 x2) (.int .u64 x3) (.int .u64 b) (.string s) (.slice la n lc) (.slice ka m kc))
       have B1 := Lib.hid (btr (bal (Below.refl w.heap.size w) _) hb1)
       obtain ⟨q0, q1, q2, q3, q4, q5, q6, q7, q8, q9⟩ := X1.parts
       clear hb1 X1
       go_wp2
       all_goals
         go_ret
         refine eq_ret rfl ?_ B1.out
         clear q0 q1 q2 q3 q4 q5 q6 q7 q8 q9
         first | rfl | (simp_all; done) | (simp_all; intros; omega))
    | (go_ret
       refine eq_ret rfl ?_ (bal (Below.refl _ _) _)
       first | rfl | (simp_all; done) | (simp_all; intros; omega))
set_option maxRecDepth 200000 in
set_option maxHeartbeats 4000000 in
theorem rown_k5 (g : Bool) (x0 x1 x2 x3 b : Int) (s : ByteArray) (la : Option Addr) (n lc : Nat) (ka : Option Addr) (m kc : Nat) (w : World) (q : Bool) (hc : ∀ W, Below w.heap.size w W → Calls Tryz.prog 170 #[.string s] W fun e w' => e = .returned (.bool q) ∧ Below W.heap.size W w') :
    Calls Tryz.prog 98 #[V10 5 g x0 x1 x2 x3 b s la n lc ka m kc] w fun e w' => e = .returned (.bool (eq5 g x0 x1 x2 x3 false 0 0 0 0 && ((b == 0) && (((n : Int) == 0) && (((m : Int) == 0) && q))))) ∧ Below w.heap.size w w' := by
  have HC := Lib.hid hc; clear hc
  go_enter Tryz.func98, Tryz.ntmps98
  go_wp2_with (go_at_call 170; ((with_reducible refine (HC.out _ (bal (Below.refl _ _) _)).mono ?_); rintro e w1 ⟨rfl, hb1⟩))
  all_goals
    go_ret
    refine eq_ret rfl ?_ (by first | exact btr (bal (Below.refl _ _) _) (by assumption) | exact bal (Below.refl _ _) _)
    first | rfl | (simp_all; done) | (simp_all; intros; omega)
set_option maxRecDepth 200000 in
set_option maxHeartbeats 4000000 in
theorem rown_k6 (g : Bool) (x0 x1 x2 x3 b : Int) (s : ByteArray) (la : Option Addr) (n lc : Nat) (ka : Option Addr) (m kc : Nat) (w : World) :
    Calls Tryz.prog 98 #[V10 6 g x0 x1 x2 x3 b s la n lc ka m kc] w fun e w' => e = .returned (.bool (eq5 g x0 x1 x2 x3 false 0 0 0 0 && ((b == 0) && (((n : Int) == 0) && ((m : Int) == 0))))) ∧ Below w.heap.size w w' := by
  go_enter Tryz.func98, Tryz.ntmps98
  go_wp2
  all_goals
    go_ret
    refine eq_ret rfl ?_ (bal (Below.refl _ _) _)
    first | rfl | (simp_all; done) | (simp_all; intros; omega)
set_option maxRecDepth 200000 in
set_option maxHeartbeats 4000000 in
theorem rown_none (g : Bool) (x0 x1 x2 x3 b : Int) (s : ByteArray) (la : Option Addr) (n lc : Nat) (ka : Option Addr) (m kc : Nat) (kd : Int) (h1 : (kd == 1) = false) (h2 : (kd == 2) = false) (h3 : (kd == 3) = false) (h4 : (kd == 4) = false) (h5 : (kd == 5) = false) (h6 : (kd == 6) = false) (h7 : (kd == 7) = false) (h8 : (kd == 8) = false) (w : World) :
    Calls Tryz.prog 98 #[V10 kd g x0 x1 x2 x3 b s la n lc ka m kc] w fun e w' => e = .returned (.bool (false)) ∧ Below w.heap.size w w' := by
  go_enter Tryz.func98, Tryz.ntmps98
  go_wp2
  all_goals
    go_ret
    refine eq_ret rfl ?_ (bal (Below.refl _ _) _)
    first | rfl | (simp_all; done) | (simp_all; intros; omega)
end Go.Proofs.YtjdogiehcgfmjaaGreatDoor
