/-
  Two numbers of four words compared ('==', '!='): the law of the model's comparison at this type. For all words.
-/
import Derived.Test.YtbfgkogccfioiaaGreatDoorNatCmp
namespace Go.Proofs.YtbfgkogccfioiaaGreatDoor
open Go.RowKit Go.Shelf

/-- Are the four words the same? -/
def eq4 (a0 a1 a2 a3 b0 b1 b2 b3 : Int) : Bool := a0 == b0 && (a1 == b1 && (a2 == b2 && a3 == b3))

theorem info_elem : ∀ w, (Go.sizeOf 22).run Tryz.prog w = .ok 1 w := fun _ => by kernel_rfl

theorem equalIn_nat (a0 a1 a2 a3 b0 b1 b2 b3 : Int) (w : World) :
    (Op.equalIn 10000 24 (.agg #[.int .u64 a0, .int .u64 a1, .int .u64 a2, .int .u64 a3]) (.agg #[.int .u64 b0, .int .u64 b1, .int .u64 b2, .int .u64 b3])).run Tryz.prog w = .ok (eq4 a0 a1 a2 a3 b0 b1 b2 b3) w := by
  have hu : Tryz.prog.underlying 24 = some (.array 4 22) := by kernel_rfl
  have he : Tryz.prog.underlying 22 = some (.int .u64) := by kernel_rfl
  have ha : ∀ W, (isAgg 22).run Tryz.prog W = .ok false W := fun _ => by kernel_rfl
  have hp : ∀ (xs : Array Value) (i : Nat) (v : Value) (W : World), xs[i]? = some v → (part 22 xs i).run Tryz.prog W = .ok v W := fun xs i v W h => by
    unfold part; simp [go_sem, ha, h]
  rw [show (10000 : Nat) = 9999 + 1 from rfl, Op.equalIn]
  simp only [Sem.run_bind, run_underlying hu, Result.andThen_ok, info_elem]
  unfold eq4
  have qe : ∀ (x y : Int) (W : World), (Op.equalIn 9999 22 (.int .u64 x) (.int .u64 y)).run Tryz.prog W = .ok (x == y) W := fun x y W => run_equalIn_int W 9998 _ _ _ _ _ he
  have pa0 := fun W => hp (#[.int .u64 a0, .int .u64 a1, .int .u64 a2, .int .u64 a3]) (0 * 1) (.int .u64 a0) W rfl
  have pa1 := fun W => hp (#[.int .u64 a0, .int .u64 a1, .int .u64 a2, .int .u64 a3]) (1 * 1) (.int .u64 a1) W rfl
  have pa2 := fun W => hp (#[.int .u64 a0, .int .u64 a1, .int .u64 a2, .int .u64 a3]) (2 * 1) (.int .u64 a2) W rfl
  have pa3 := fun W => hp (#[.int .u64 a0, .int .u64 a1, .int .u64 a2, .int .u64 a3]) (3 * 1) (.int .u64 a3) W rfl
  have pb0 := fun W => hp (#[.int .u64 b0, .int .u64 b1, .int .u64 b2, .int .u64 b3]) (0 * 1) (.int .u64 b0) W rfl
  have pb1 := fun W => hp (#[.int .u64 b0, .int .u64 b1, .int .u64 b2, .int .u64 b3]) (1 * 1) (.int .u64 b1) W rfl
  have pb2 := fun W => hp (#[.int .u64 b0, .int .u64 b1, .int .u64 b2, .int .u64 b3]) (2 * 1) (.int .u64 b2) W rfl
  have pb3 := fun W => hp (#[.int .u64 b0, .int .u64 b1, .int .u64 b2, .int .u64 b3]) (3 * 1) (.int .u64 b3) W rfl
  rw [Std.Legacy.Range.forIn_eq_forIn_range']
  rw [show List.range' 0 (Std.Legacy.Range.size [:4]) 1 = [0, 1, 2, 3] from rfl]
  simp only [List.forIn_cons, List.forIn_nil, Sem.run_bind, pa0, pb0, qe, Result.andThen_ok]
  cases h0 : (a0 == b0)
  · simp [Sem.run_pure]
  cases h1 : (a1 == b1)
  · simp [Sem.run_pure, Sem.run_bind, pa1, pb1, qe, h1]
  cases h2 : (a2 == b2)
  · simp [Sem.run_pure, Sem.run_bind, pa1, pb1, qe, h1, pa2, pb2, h2]
  cases h3 : (a3 == b3)
  · simp [Sem.run_pure, Sem.run_bind, pa1, pb1, qe, h1, pa2, pb2, h2, pa3, pb3, h3]
  · simp [Sem.run_pure, Sem.run_bind, pa1, pb1, qe, h1, pa2, pb2, h2, pa3, pb3, h3]

theorem eql_nat (a0 a1 a2 a3 b0 b1 b2 b3 : Int) (w : World) :
    (binOp .eql 24 (.agg #[.int .u64 a0, .int .u64 a1, .int .u64 a2, .int .u64 a3]) (.agg #[.int .u64 b0, .int .u64 b1, .int .u64 b2, .int .u64 b3])).run Tryz.prog w = .ok (.bool (eq4 a0 a1 a2 a3 b0 b1 b2 b3)) w := by
  rw [run_eql_struct, equalIn_nat]; rfl
theorem neq_nat (a0 a1 a2 a3 b0 b1 b2 b3 : Int) (w : World) :
    (binOp .neq 24 (.agg #[.int .u64 a0, .int .u64 a1, .int .u64 a2, .int .u64 a3]) (.agg #[.int .u64 b0, .int .u64 b1, .int .u64 b2, .int .u64 b3])).run Tryz.prog w = .ok (.bool (!eq4 a0 a1 a2 a3 b0 b1 b2 b3)) w := by
  rw [run_neq_struct, equalIn_nat]; rfl
/-- Two numbers are the same, if their limbs are. -/
theorem eq4_nat (x y : Nat) (hx : x < 2 ^ 256) (hy : y < 2 ^ 256) : eq4 (lb 0 x) (lb 1 x) (lb 2 x) (lb 3 x) (lb 0 y) (lb 1 y) (lb 2 y) (lb 3 y) = decide (x = y) := by
  have X := lb_sum x hx; have Y := lb_sum y hy
  unfold eq4
  by_cases h : x = y
  · subst h; simp
  · simp only [h, decide_false]
    have : ¬ (lb 0 x = lb 0 y ∧ lb 1 x = lb 1 y ∧ lb 2 x = lb 2 y ∧ lb 3 x = lb 3 y) := by
      rintro ⟨h0, h1, h2, h3⟩
      rw [h0, h1, h2, h3, Y] at X
      exact h (by omega)
    simpa using this
theorem eq4_of (x y : Nat) (hx : x < 2 ^ 256) (hy : y < 18446744073709551616) : eq4 (lb 0 x) (lb 1 x) (lb 2 x) (lb 3 x) y 0 0 0 = decide (x = y) := by
  have h := eq4_nat x y hx (by omega)
  have e0 : lb 0 y = y := by rw [lb0]; omega
  have e1 : lb 1 y = 0 := by rw [lb1]; omega
  have e2 : lb 2 y = 0 := by rw [lb2]; omega
  have e3 : lb 3 y = 0 := by rw [lb3]; omega
  rwa [e0, e1, e2, e3] at h

end Go.Proofs.YtbfgkogccfioiaaGreatDoor
