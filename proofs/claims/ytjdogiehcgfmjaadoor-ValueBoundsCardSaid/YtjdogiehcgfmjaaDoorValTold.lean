/-
  entrepotlaw6.told answers true, wherever the table of package math/bits lies.
-/
import Derived.Test.YtjdogiehcgfmjaaDoorValNumber
import Derived.Test.YtjdogiehcgfmjaaDoorValLoops
import Derived.Test.YtjdogiehcgfmjaaDoorShelf
namespace Go.Proofs.YtjdogiehcgfmjaaDoor
open Go.RowKit Go.Shelf
attribute [local go_sem ↓] eql_nat neq_nat eql_int5 neq_int5

theorem cmp_kinds (kd : Int) (g : Bool) (x0 x1 x2 x3 b : Int) (s : ByteArray) (la : Option Addr) (n lc : Nat) (ka : Option Addr) (m kc : Nat) (kd' : Int) (h : Bool) (y0 y1 y2 y3 b' : Int) (s' : ByteArray) (la' : Option Addr) (n' lc' : Nat) (ka' : Option Addr) (m' kc' : Nat) (hk : (kd != kd') = true) (w : World) :
    Calls Tryd.prog 14 #[V10 kd g x0 x1 x2 x3 b s la n lc ka m kc, V10 kd' h y0 y1 y2 y3 b' s' la' n' lc' ka' m' kc'] w fun e w' => e = .returned (.int .i64 (Lib.compareInt kd kd')) ∧ Below w.heap.size w w' := by
  go_enter Tryd.func14, Tryd.ntmps14
  go_wp2_with (go_at_call 27; ((with_reducible refine (Tryd.cmp_Compare_int _ _ _).mono ?_); rintro e w1 ⟨rfl, hw⟩; rw [hw]))
  go_ret
  exact ⟨rfl, bal (bal (Below.refl _ _) _) _⟩

/-- A value of a kind and a number alone. -/
def leafT (k : Int) (x : Nat) : VT := .mk ⟨k, false, x, 0, ⟨#[]⟩, none, 0, none, 0, []⟩ []
theorem leafT_in (k : Int) (x : Nat) (hk : -100 ≤ k ∧ k ≤ 100) (hx : x < 2 ^ 256) (w : World) : (leafT k x).In w :=
  .mk _ _ ⟨⟨by show _ ≤ k; omega, by show k ≤ _; omega⟩, hx, ⟨Int.le_refl _, by show (0 : Int) ≤ _; omega⟩, Nat.zero_le _, ⟨Nat.le_refl _, Nat.zero_le _⟩, ⟨Nat.le_refl _, Nat.zero_le _⟩, fun s h => by cases h⟩
    ⟨0, 0, fun h => absurd h (by simp), fun i s h => by simp at h⟩ ⟨0, 0, fun h => absurd h (by simp), fun i s h => by simp at h⟩ (fun i t h => by simp at h)
theorem leafT_q (k : Int) (x : Nat) (hk : -100 ≤ k ∧ k ≤ 100) (hx : x < 2 ^ 256) (w : World) (hT : Tb w) : Qv (leafT k x) w :=
  ⟨leafT_in k x hk hx w, hT, .mk _ _ ⟨Nat.zero_le _, fun s h => by cases h⟩ (fun t h => by cases h)⟩
theorem leafT_nodes (k : Int) (x : Nat) : (leafT k x).nodes = 1 := by unfold leafT; rw [VT.nodes_mk]; rfl
theorem leafT_depth (k : Int) (x : Nat) : (leafT k x).depth = 1 := by unfold leafT; rw [VT.depth_mk]; rfl
theorem leafT_has (p : VT → Bool) (k : Int) (x : Nat) : hasT p (leafT k x) = p (leafT k x) := by rw [hasT_mk]; simp [leafT]
theorem leafT_may (k : Int) (x : Nat) (q : Bool) (ho : overT (leafT k x) = false) (hq : ownB (leafT k x).o 0 = q) : mayN (leafT k x) = if q then 0 else 1 := by
  unfold mayN
  rw [leafT_depth, if_neg (by omega), leafT_has, ho, if_neg (by simp), leafT_has]
  have : wrongT (leafT k x) = !q := by rw [← hq]; rfl
  rw [this]
  cases q <;> simp
theorem eqO_same (k : Int) (g : Bool) (a0 a1 a2 a3 b : Int) (s : ByteArray) (m n : Int) : eqO k g a0 a1 a2 a3 b s m n k g a0 a1 a2 a3 b s m n = true := by simp [eqO, eq5, eq4]
theorem null_may : mayN (leafT 1 0) = 0 := by
  refine leafT_may 1 0 true (by decide) ?_
  have : outB (leafT 1 0).o 0 = true := by
    show eqO 1 false (lb 0 0) (lb 1 0) (lb 2 0) (lb 3 0) 0 ⟨#[]⟩ ((0 : Nat) : Int) ((0 : Nat) : Int) 1 false 0 0 0 0 0 ⟨#[]⟩ ((0 : Nat) : Int) ((0 : Nat) : Int) = true
    simp only [lb_zero]
    exact eqO_same _ _ _ _ _ _ _ _ _ _
  unfold ownB
  rw [this]
  rfl
theorem zero_may : mayN (leafT 0 0) = 1 := by
  refine leafT_may 0 0 false (by decide) ?_
  unfold ownB
  rw [show restB (leafT 0 0).o 0 = false by rfl]
  simp
theorem one_may : mayN (leafT 3 1) = 0 := by
  refine leafT_may 3 1 true (by decide) ?_
  have : outB (leafT 3 1).o 0 = true := by
    show eqO 3 false (lb 0 1) (lb 1 1) (lb 2 1) (lb 3 1) 0 ⟨#[]⟩ ((0 : Nat) : Int) ((0 : Nat) : Int) 3 false (lb 0 1) (lb 1 1) (lb 2 1) (lb 3 1) 0 ⟨#[]⟩ ((0 : Nat) : Int) ((0 : Nat) : Int) = true
    exact eqO_same _ _ _ _ _ _ _ _ _ _
  unfold ownB
  rw [this]
  show (true && okI false 1) = true
  simp [okI, eq5]
theorem null_proto : inB (leafT 1 0) 3 = false := by
  unfold inB
  rw [null_may]
  simp [leafT]
theorem one_json : inB (leafT 3 1) 1 = true := by
  unfold inB
  rw [one_may, leafT_has]
  rw [if_pos rfl, if_pos rfl]
  rw [show notJsonT (leafT 3 1) = false by rfl]
  rfl
theorem leaf_val (k : Int) (x : Nat) : (leafT k x).val = V10 k false (lb 0 x) (lb 1 x) (lb 2 x) (lb 3 x) 0 ⟨#[]⟩ none 0 0 none 0 0 := rfl
theorem wend_one : WEnd 4607182418800017408 = .tuple #[.agg #[.bool false, .int .u64 1, .int .u64 0, .int .u64 0, .int .u64 0], .bool true] := by kernel_rfl

set_option maxRecDepth 100000 in
set_option maxHeartbeats 2000000 in
theorem told6_core (w : World)
    (k0 : ∀ W, Below w.heap.size w W → Calls Tryd.prog 12 #[.int .u64 4607182418800017408] W fun e w' => e = .returned (V10 3 false 1 0 0 0 0 ⟨#[]⟩ none 0 0 none 0 0) ∧ Below W.heap.size W w')
    (k1 : ∀ W, Below w.heap.size w W → Calls Tryd.prog 7 #[V10 1 false 0 0 0 0 0 ⟨#[]⟩ none 0 0 none 0 0] W fun e w' => e = .returned (.int .i64 0) ∧ Below W.heap.size W w')
    (k2 : ∀ W, Below w.heap.size w W → Calls Tryd.prog 7 #[V10 0 false 0 0 0 0 0 ⟨#[]⟩ none 0 0 none 0 0] W fun e w' => e = .returned (.int .i64 1) ∧ Below W.heap.size W w')
    (k3 : ∀ W, Below w.heap.size w W → Calls Tryd.prog 13 #[V10 1 false 0 0 0 0 0 ⟨#[]⟩ none 0 0 none 0 0, .int .i64 3] W fun e w' => e = .returned (.bool false) ∧ Below W.heap.size W w')
    (k4 : ∀ W, Below w.heap.size w W → Calls Tryd.prog 13 #[V10 3 false 1 0 0 0 0 ⟨#[]⟩ none 0 0 none 0 0, .int .i64 1] W fun e w' => e = .returned (.bool true) ∧ Below W.heap.size W w')
    (k5 : ∀ W, Below w.heap.size w W → Calls Tryd.prog 6 #[V10 3 false 1 0 0 0 0 ⟨#[]⟩ none 0 0 none 0 0] W fun e w' => e = .returned (.int .i64 1) ∧ Below W.heap.size W w')
    (k6 : ∀ W, Below w.heap.size w W → Calls Tryd.prog 14 #[V10 1 false 0 0 0 0 0 ⟨#[]⟩ none 0 0 none 0 0, V10 3 false 1 0 0 0 0 ⟨#[]⟩ none 0 0 none 0 0] W fun e w' => e = .returned (.int .i64 (-1)) ∧ Below W.heap.size W w') :
    Calls Tryd.prog 5 #[] w fun e w' => e = .returned (.bool true) ∧ Below w.heap.size w w' := by
  have K0 := Lib.hid k0; have K1 := Lib.hid k1; have K2 := Lib.hid k2; have K3 := Lib.hid k3; have K4 := Lib.hid k4; have K5 := Lib.hid k5; have K6 := Lib.hid k6
  clear k0 k1 k2 k3 k4 k5 k6
  go_enter Tryd.func5, Tryd.ntmps5
  go_wp2_with fail
  ((with_reducible refine (K0.out _ (Below.refl _ _)).mono ?_); rintro e w0 ⟨rfl, hb0⟩)
  have B0 := Lib.hid (bal hb0 (.cells #[.int .i64 3, .bool false, .int .u64 1, .int .u64 0, .int .u64 0, .int .u64 0, .int .u64 0, .string ⟨#[]⟩, .slice none 0 0, .slice none 0 0] 31))
  have R0 := Row10.new w0 (.int .i64 3) (.bool false) (.int .u64 1) (.int .u64 0) (.int .u64 0) (.int .u64 0) (.int .u64 0) (.string ⟨#[]⟩) (.slice none 0 0) (.slice none 0 0)
  clear hb0
  go_wp2_with fail
  ((with_reducible refine (K1.out _ B0.out).mono ?_); rintro e w1 ⟨rfl, hb⟩)
  have B1 := Lib.hid (btr B0.out hb); have R1 := Row10.keep hb R0
  clear hb B0 R0
  go_wp2_with fail
  ((with_reducible refine (K2.out _ B1.out).mono ?_); rintro e w2 ⟨rfl, hb⟩)
  have B2 := Lib.hid (btr B1.out hb); have R2 := Row10.keep hb R1
  clear hb B1 R1
  obtain ⟨p0, p1, p2, p3, p4, p5, p6, p7, p8, p9⟩ := R2.parts
  go_wp2_with fail
  ((with_reducible refine (K3.out _ B2.out).mono ?_); rintro e w3 ⟨rfl, hb⟩)
  have B3 := Lib.hid (btr B2.out hb); have R3 := Row10.keep hb R2
  clear hb B2 R2 p0 p1 p2 p3 p4 p5 p6 p7 p8 p9
  obtain ⟨p0, p1, p2, p3, p4, p5, p6, p7, p8, p9⟩ := R3.parts
  go_wp2_with fail
  ((with_reducible refine (K4.out _ B3.out).mono ?_); rintro e w4 ⟨rfl, hb⟩)
  have B4 := Lib.hid (btr B3.out hb); have R4 := Row10.keep hb R3
  clear hb B3 R3 p0 p1 p2 p3 p4 p5 p6 p7 p8 p9
  obtain ⟨p0, p1, p2, p3, p4, p5, p6, p7, p8, p9⟩ := R4.parts
  go_wp2_with fail
  ((with_reducible refine (K5.out _ B4.out).mono ?_); rintro e w5 ⟨rfl, hb⟩)
  have B5 := Lib.hid (btr B4.out hb); have R5 := Row10.keep hb R4
  clear hb B4 R4 p0 p1 p2 p3 p4 p5 p6 p7 p8 p9
  obtain ⟨p0, p1, p2, p3, p4, p5, p6, p7, p8, p9⟩ := R5.parts
  go_wp2_with fail
  ((with_reducible refine (K6.out _ B5.out).mono ?_); rintro e w6 ⟨rfl, hb⟩)
  have B6 := Lib.hid (btr B5.out hb); have R6 := Row10.keep hb R5
  clear hb B5 R5 p0 p1 p2 p3 p4 p5 p6 p7 p8 p9
  obtain ⟨p0, p1, p2, p3, p4, p5, p6, p7, p8, p9⟩ := R6.parts
  go_wp2
  go_ret
  exact ⟨rfl, B6.out⟩
/-- told, wherever the table lies. -/
theorem told6_true (w : World) (hT : Tb w) : Calls Tryd.prog 5 #[] w fun e w' => e = .returned (.bool true) ∧ Below w.heap.size w w' := by
  have l1 : lb 0 1 = 1 := by decide
  have l2 : lb 1 1 = 0 := by decide
  have l3 : lb 2 1 = 0 := by decide
  have l4 : lb 3 1 = 0 := by decide
  have v1 : (leafT 1 0).val = V10 1 false 0 0 0 0 0 ⟨#[]⟩ none 0 0 none 0 0 := by rw [leaf_val]; simp only [lb_zero]
  have v0 : (leafT 0 0).val = V10 0 false 0 0 0 0 0 ⟨#[]⟩ none 0 0 none 0 0 := by rw [leaf_val]; simp only [lb_zero]
  have v3 : (leafT 3 1).val = V10 3 false 1 0 0 0 0 ⟨#[]⟩ none 0 0 none 0 0 := by rw [leaf_val, l1, l2, l3, l4]
  refine told6_core w ?_ ?_ ?_ ?_ ?_ ?_ ?_
  · intro W hb
    refine number_yes 4607182418800017408 false 1 0 0 0 W fun W' hb' => ?_
    have := whole_any 4607182418800017408 (by omega) W' (tb_on (tb_on hT hb) hb')
    rw [wend_one] at this
    exact this
  · intro W hb
    have := vmay (leafT 1 0) (by rw [leafT_nodes]; omega) W (leafT_q 1 0 (by omega) (by omega) W (tb_on hT hb))
    rw [v1, null_may] at this
    exact this
  · intro W hb
    have := vmay (leafT 0 0) (by rw [leafT_nodes]; omega) W (leafT_q 0 0 (by omega) (by omega) W (tb_on hT hb))
    rw [v0, zero_may] at this
    exact this
  · intro W hb
    have := vin (leafT 1 0) (by rw [leafT_nodes]; omega) 3 W (leafT_q 1 0 (by omega) (by omega) W (tb_on hT hb))
    rw [v1, null_proto] at this
    exact this
  · intro W hb
    have := vin (leafT 3 1) (by rw [leafT_nodes]; omega) 1 W (leafT_q 3 1 (by omega) (by omega) W (tb_on hT hb))
    rw [v3, one_json] at this
    exact this
  · intro W hb
    have := vdepth (leafT 3 1) (by rw [leafT_depth]; omega) W (leafT_in 3 1 (by omega) (by omega) W)
    rw [v3, leafT_depth] at this
    exact this
  · intro W hb
    exact cmp_kinds 1 _ _ _ _ _ _ _ _ _ _ _ _ _ 3 _ _ _ _ _ _ _ _ _ _ _ _ _ (by decide) W
end Go.Proofs.YtjdogiehcgfmjaaDoor
