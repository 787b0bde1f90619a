/-
  nat.Div: the contract, for all numbers of four words and all words.
-/
import Derived.Test.YtoibaeilbolffaaGreatDoorNatDivMath
import Derived.Lib.ItoaWalk
namespace Go.Proofs.YtoibaeilbolffaaGreatDoor
open Go.RowKit Go.Shelf

theorem Row4.put0 {W : World} {b : Nat} {v0 v1 v2 v3 : Value} (h : Row4 W b v0 v1 v2 v3) (u : Value) : Row4 (W.setCell ⟨b, 0, none⟩ u) b u v1 v2 v3 := by
  unfold Row4 at *
  simpa using heap_setCell_same W b 0 _ _ u h
theorem Row4.put1 {W : World} {b : Nat} {v0 v1 v2 v3 : Value} (h : Row4 W b v0 v1 v2 v3) (u : Value) : Row4 (W.setCell ⟨b, 1, none⟩ u) b v0 u v2 v3 := by
  unfold Row4 at *
  simpa using heap_setCell_same W b 1 _ _ u h
theorem Row4.put2 {W : World} {b : Nat} {v0 v1 v2 v3 : Value} (h : Row4 W b v0 v1 v2 v3) (u : Value) : Row4 (W.setCell ⟨b, 2, none⟩ u) b v0 v1 u v3 := by
  unfold Row4 at *
  simpa using heap_setCell_same W b 2 _ _ u h
theorem Row4.put3 {W : World} {b : Nat} {v0 v1 v2 v3 : Value} (h : Row4 W b v0 v1 v2 v3) (u : Value) : Row4 (W.setCell ⟨b, 3, none⟩ u) b v0 v1 v2 u := by
  unfold Row4 at *
  simpa using heap_setCell_same W b 3 _ _ u h

set_option maxHeartbeats 1000000 in
theorem div_core (a0 a1 a2 a3 d q0 q1 q2 q3 r0 r1 r2 r3 : Int) (hd : (d == 0) = false)
    (D3 : ∀ W, Calls Tryz.prog 97 #[.int .u64 0, .int .u64 a3, .int .u64 d] W fun e w' => e = .returned (.tuple #[.int .u64 q3, .int .u64 r3]) ∧ ∃ n, w' = W.drewN n)
    (D2 : ∀ W, Calls Tryz.prog 97 #[.int .u64 r3, .int .u64 a2, .int .u64 d] W fun e w' => e = .returned (.tuple #[.int .u64 q2, .int .u64 r2]) ∧ ∃ n, w' = W.drewN n)
    (D1 : ∀ W, Calls Tryz.prog 97 #[.int .u64 r2, .int .u64 a1, .int .u64 d] W fun e w' => e = .returned (.tuple #[.int .u64 q1, .int .u64 r1]) ∧ ∃ n, w' = W.drewN n)
    (D0 : ∀ W, Calls Tryz.prog 97 #[.int .u64 r1, .int .u64 a0, .int .u64 d] W fun e w' => e = .returned (.tuple #[.int .u64 q0, .int .u64 r0]) ∧ ∃ n, w' = W.drewN n) (w : World) :
    Calls Tryz.prog 64 #[.agg #[.int .u64 a0, .int .u64 a1, .int .u64 a2, .int .u64 a3], .int .u64 d] w fun e w' => e = .returned (.tuple #[.agg #[.int .u64 q0, .int .u64 q1, .int .u64 q2, .int .u64 q3], .int .u64 r0, .bool true]) ∧ Below w.heap.size w w' := by
  have E0 := Lib.hid D0; have E1 := Lib.hid D1; have E2 := Lib.hid D2; have E3 := Lib.hid D3
  clear D0 D1 D2 D3
  go_enter Tryz.func64, Tryz.ntmps64
  go_wp2
  refine wp_loop_rounds 5 ?_
  rw [rounds_succ]
  go_name_world W4 hW4
  have A4 : Row4 W4 w.heap.size (.int .u64 a0) (.int .u64 a1) (.int .u64 a2) (.int .u64 a3) := by rw [← hW4]; exact Row4.alloc (Row4.alloc (Row4.new _ _ _ _ _) _) _
  have O4 : Row4 W4 (w.heap.size + 1) (.int .u64 0) (.int .u64 0) (.int .u64 0) (.int .u64 0) := by rw [← hW4]; exact Row4.alloc (Row4.new' _ (by simp) _ _ _ _) _
  have Q4 : Row4 W4 (w.heap.size + 1 + 1) (.int .u64 0) (.int .u64 0) (.int .u64 0) (.int .u64 0) := by rw [← hW4]; exact Row4.new' _ (by simp) _ _ _ _
  have B4 : Below w.heap.size w W4 := by rw [← hW4]; exact bal (bal (bal (Below.refl _ _) _) _) _
  clear hW4
  obtain ⟨ta0, ta1, ta2, ta3, tb⟩ := A4.parts
  obtain ⟨tq0, tq1, tq2, tq3, tf0, tf1, tf2, tf3⟩ := Q4.parts
  clear tb
  go_wp2_with fail
  refine (E3.out _).mono ?_
  rintro e w' ⟨rfl, n3, rfl⟩
  go_wp2
  rw [rounds_succ]
  go_name_world W3 hW3
  have A3 : Row4 W3 w.heap.size (.int .u64 a0) (.int .u64 a1) (.int .u64 a2) (.int .u64 a3) := by rw [← hW3]; exact Row4.set (Row4.drewN A4 _) (by omega) _
  have O3 : Row4 W3 (w.heap.size + 1) (.int .u64 0) (.int .u64 0) (.int .u64 0) (.int .u64 0) := by rw [← hW3]; exact Row4.set (Row4.drewN O4 _) (by omega) _
  have Q3 : Row4 W3 (w.heap.size + 1 + 1) (.int .u64 0) (.int .u64 0) (.int .u64 0) (.int .u64 q3) := by rw [← hW3]; exact Row4.put3 (Row4.drewN Q4 _) _
  have B3 : Below w.heap.size w W3 := by rw [← hW3]; exact bsc (bdn B4 _) (by simp; omega) _
  clear hW3 ta0 ta1 ta2 ta3 tq0 tq1 tq2 tq3 tf0 tf1 tf2 tf3 A4 O4 Q4 B4
  obtain ⟨ta0, ta1, ta2, ta3, tb⟩ := A3.parts
  obtain ⟨tq0, tq1, tq2, tq3, tf0, tf1, tf2, tf3⟩ := Q3.parts
  clear tb
  go_wp2_with fail
  refine (E2.out _).mono ?_
  rintro e w' ⟨rfl, n2, rfl⟩
  go_wp2
  rw [rounds_succ]
  go_name_world W2 hW2
  have A2 : Row4 W2 w.heap.size (.int .u64 a0) (.int .u64 a1) (.int .u64 a2) (.int .u64 a3) := by rw [← hW2]; exact Row4.set (Row4.drewN A3 _) (by omega) _
  have O2 : Row4 W2 (w.heap.size + 1) (.int .u64 0) (.int .u64 0) (.int .u64 0) (.int .u64 0) := by rw [← hW2]; exact Row4.set (Row4.drewN O3 _) (by omega) _
  have Q2 : Row4 W2 (w.heap.size + 1 + 1) (.int .u64 0) (.int .u64 0) (.int .u64 q2) (.int .u64 q3) := by rw [← hW2]; exact Row4.put2 (Row4.drewN Q3 _) _
  have B2 : Below w.heap.size w W2 := by rw [← hW2]; exact bsc (bdn B3 _) (by simp; omega) _
  clear hW2 ta0 ta1 ta2 ta3 tq0 tq1 tq2 tq3 tf0 tf1 tf2 tf3 A3 O3 Q3 B3
  obtain ⟨ta0, ta1, ta2, ta3, tb⟩ := A2.parts
  obtain ⟨tq0, tq1, tq2, tq3, tf0, tf1, tf2, tf3⟩ := Q2.parts
  clear tb
  go_wp2_with fail
  refine (E1.out _).mono ?_
  rintro e w' ⟨rfl, n1, rfl⟩
  go_wp2
  rw [rounds_succ]
  go_name_world W1 hW1
  have A1 : Row4 W1 w.heap.size (.int .u64 a0) (.int .u64 a1) (.int .u64 a2) (.int .u64 a3) := by rw [← hW1]; exact Row4.set (Row4.drewN A2 _) (by omega) _
  have O1 : Row4 W1 (w.heap.size + 1) (.int .u64 0) (.int .u64 0) (.int .u64 0) (.int .u64 0) := by rw [← hW1]; exact Row4.set (Row4.drewN O2 _) (by omega) _
  have Q1 : Row4 W1 (w.heap.size + 1 + 1) (.int .u64 0) (.int .u64 q1) (.int .u64 q2) (.int .u64 q3) := by rw [← hW1]; exact Row4.put1 (Row4.drewN Q2 _) _
  have B1 : Below w.heap.size w W1 := by rw [← hW1]; exact bsc (bdn B2 _) (by simp; omega) _
  clear hW1 ta0 ta1 ta2 ta3 tq0 tq1 tq2 tq3 tf0 tf1 tf2 tf3 A2 O2 Q2 B2
  obtain ⟨ta0, ta1, ta2, ta3, tb⟩ := A1.parts
  obtain ⟨tq0, tq1, tq2, tq3, tf0, tf1, tf2, tf3⟩ := Q1.parts
  clear tb
  go_wp2_with fail
  refine (E0.out _).mono ?_
  rintro e w' ⟨rfl, n0, rfl⟩
  go_wp2
  rw [rounds_succ]
  go_name_world W0 hW0
  have A0 : Row4 W0 w.heap.size (.int .u64 a0) (.int .u64 a1) (.int .u64 a2) (.int .u64 a3) := by rw [← hW0]; exact Row4.set (Row4.drewN A1 _) (by omega) _
  have O0 : Row4 W0 (w.heap.size + 1) (.int .u64 0) (.int .u64 0) (.int .u64 0) (.int .u64 0) := by rw [← hW0]; exact Row4.set (Row4.drewN O1 _) (by omega) _
  have Q0 : Row4 W0 (w.heap.size + 1 + 1) (.int .u64 q0) (.int .u64 q1) (.int .u64 q2) (.int .u64 q3) := by rw [← hW0]; exact Row4.put0 (Row4.drewN Q1 _) _
  have B0 : Below w.heap.size w W0 := by rw [← hW0]; exact bsc (bdn B1 _) (by simp; omega) _
  clear hW0 ta0 ta1 ta2 ta3 tq0 tq1 tq2 tq3 tf0 tf1 tf2 tf3 A1 O1 Q1 B1
  obtain ⟨tq0, tq1, tq2, tq3, tb⟩ := Q0.parts
  obtain ⟨tz0, tz1, tz2, tz3, tf0, tf1, tf2, tf3⟩ := O0.parts
  clear tb
  go_wp2
  exact bodyPost_ret (v := .tuple #[.agg #[.int .u64 q0, .int .u64 q1, .int .u64 q2, .int .u64 q3], .int .u64 r0, .bool true]) (by simp [results, Tryz.results64, go_sem, tz0, tz1, tz2, tz3]) rfl ⟨rfl, bsc4 B0 (by omega) _ _ _ _⟩

theorem div_nought (a0 a1 a2 a3 : Int) (w : World) :
    Calls Tryz.prog 64 #[.agg #[.int .u64 a0, .int .u64 a1, .int .u64 a2, .int .u64 a3], .int .u64 0] w fun e w' => e = .returned (.tuple #[.agg #[.int .u64 0, .int .u64 0, .int .u64 0, .int .u64 0], .int .u64 0, .bool false]) ∧ Below w.heap.size w w' := by
  go_enter Tryz.func64, Tryz.ntmps64
  go_wp2
  refine bodyPost_ret (v := .tuple #[.agg #[.int .u64 0, .int .u64 0, .int .u64 0, .int .u64 0], .int .u64 0, .bool false]) (by simp [results, Tryz.results64, go_sem]) rfl ⟨rfl, ?_⟩
  repeat (first | exact Below.refl _ _ | refine bal ?_ _ | refine Below.drew ?_ | refine bdn ?_ _ | refine bsc4 ?_ (by omega) _ _ _ _)

/-- One digit of a division. -/
theorem div_step (a : Int) (r d : Nat) (ha : Word a) (hr : r < d) (hd : d < 18446744073709551616) : ∃ (q : Int) (r' : Nat), Word q ∧ r' < d ∧ (r : Int) * 18446744073709551616 + a = q * d + r' ∧
    ∀ W, Calls Tryz.prog 97 #[.int .u64 r, .int .u64 a, .int .u64 d] W fun e w' => e = .returned (.tuple #[.int .u64 q, .int .u64 (r' : Int)]) ∧ ∃ n, w' = W.drewN n := by
  unfold Word at *
  obtain ⟨a, rfl⟩ := Int.eq_ofNat_of_zero_le ha.1
  have ha1 : a < 18446744073709551616 := by omega
  refine ⟨(((r * 18446744073709551616 + a) / d : Nat) : Int), (r * 18446744073709551616 + a) % d, ⟨Int.natCast_nonneg _, ?_⟩, Nat.mod_lt _ (by omega), ?_, fun W => div64_any r a d ha1 hr hd W⟩
  · have : (r * 18446744073709551616 + a) / d < 18446744073709551616 := by
      apply Nat.div_lt_of_lt_mul
      have : (r + 1) * 18446744073709551616 ≤ d * 18446744073709551616 := Nat.mul_le_mul_right _ hr
      omega
    omega
  · have := Nat.div_add_mod (r * 18446744073709551616 + a) d
    rw [Nat.mul_comm] at this
    generalize (r * 18446744073709551616 + a) / d = q at *
    generalize (r * 18446744073709551616 + a) % d = m at *
    rw [← Int.natCast_mul]
    omega

/-- nat.Div. -/
theorem div_any (x d : Nat) (hx : x < 2 ^ 256) (hd0 : 0 < d) (hd : d < 18446744073709551616) (w : World) :
    Calls Tryz.prog 64 #[N4 x, .int .u64 d] w fun e w' => e = .returned (.tuple #[N4 (x / d), .int .u64 ((x % d : Nat) : Int), .bool true]) ∧ Below w.heap.size w w' := by
  have X := lb_sum x hx
  have x0 := lb_word 0 x; have x1 := lb_word 1 x; have x2 := lb_word 2 x; have x3 := lb_word 3 x
  obtain ⟨q3, r3, w3, l3, e3, D3⟩ := div_step (lb 3 x) 0 d x3 hd0 hd
  obtain ⟨q2, r2, w2, l2, e2, D2⟩ := div_step (lb 2 x) r3 d x2 l3 hd
  obtain ⟨q1, r1, w1, l1, e1, D1⟩ := div_step (lb 1 x) r2 d x1 l2 hd
  obtain ⟨q0, r0, w0, l0, e0, D0⟩ := div_step (lb 0 x) r1 d x0 l1 hd
  have hv := val4_lt w0 w1 w2 w3
  have tot : (x : Int) = r0 + val4 q0 q1 q2 q3 * d := by
    rw [← X]
    unfold val4
    rw [Int.add_mul, Int.add_mul, Int.add_mul, Int.mul_assoc, Int.mul_assoc, Int.mul_assoc]
    omega
  have hq : (x : Int) / d = val4 q0 q1 q2 q3 := by
    rw [tot, Int.add_mul_ediv_right _ _ (by omega), Int.ediv_eq_zero_of_lt (by omega) (by omega), Int.zero_add]
  have hr : (x : Int) % d = r0 := by
    rw [tot, Int.add_mul_emod_self_right, Int.emod_eq_of_lt (by omega) (by omega)]
  obtain ⟨z0, z1, z2, z3⟩ := lb_of w0 w1 w2 w3 (z := x / d) (by rw [← hq, Int.natCast_ediv])
  refine (div_core _ _ _ _ (d : Int) q0 q1 q2 q3 r0 r1 r2 r3 (by rw [beq_eq_false_iff_ne]; omega) D3 D2 D1 D0 w).mono ?_
  rintro e w' ⟨rfl, hb⟩
  refine ⟨?_, hb⟩
  have hr' : ((x % d : Nat) : Int) = r0 := by rw [Int.natCast_emod]; exact hr
  rw [hr']
  simp only [N4, z0, z1, z2, z3]

end Go.Proofs.YtoibaeilbolffaaGreatDoor
