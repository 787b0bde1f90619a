/-
  nat.Add and nat.Sub: the contracts, for all numbers of four words.
-/
import Derived.Test.YtbfgkogccfioiaaGreatDoorNatBase
namespace Go.Proofs.YtbfgkogccfioiaaGreatDoor
open Go.RowKit Go.Shelf

theorem add_core (a0 a1 a2 a3 b0 b1 b2 b3 s0 s1 s2 s3 c1 c2 c3 c4 : Int) (w : World)
    (e0 : ∀ W, (callFunc 146 #[.int .u64 a0, .int .u64 b0, .int .u64 0]).run Tryz.prog W = .ok (.value (.tuple #[.int .u64 s0, .int .u64 c1])) W)
    (e1 : ∀ W, (callFunc 146 #[.int .u64 a1, .int .u64 b1, .int .u64 c1]).run Tryz.prog W = .ok (.value (.tuple #[.int .u64 s1, .int .u64 c2])) W)
    (e2 : ∀ W, (callFunc 146 #[.int .u64 a2, .int .u64 b2, .int .u64 c2]).run Tryz.prog W = .ok (.value (.tuple #[.int .u64 s2, .int .u64 c3])) W)
    (e3 : ∀ W, (callFunc 146 #[.int .u64 a3, .int .u64 b3, .int .u64 c3]).run Tryz.prog W = .ok (.value (.tuple #[.int .u64 s3, .int .u64 c4])) W) :
    Calls Tryz.prog 229 #[.agg #[.int .u64 a0, .int .u64 a1, .int .u64 a2, .int .u64 a3], .agg #[.int .u64 b0, .int .u64 b1, .int .u64 b2, .int .u64 b3]] w fun e w' =>
      e = (if c4 = 0 then .returned (.tuple #[.agg #[.int .u64 s0, .int .u64 s1, .int .u64 s2, .int .u64 s3], .bool true]) else .returned (.tuple #[.agg #[.int .u64 0, .int .u64 0, .int .u64 0, .int .u64 0], .bool false])) ∧ Below w.heap.size w w' := by
  go_enter Tryz.func229, Tryz.ntmps229
  go_wp2
  refine wp_loop_rounds 5 ?_
  rw [rounds_succ]
  go_wp2
  go_region_held3 (fun w' => w'.cell? ⟨w.heap.size, 0, none⟩ = some (.int .u64 a0) ∧ w'.cell? ⟨w.heap.size + 1, 0, none⟩ = some (.int .u64 b0)) (simp [go_sem, World.cell?_alloc_past]) (fail)
  go_wp2
  rw [rounds_succ]
  go_wp2
  go_region_held3 (fun w' => w'.cell? ⟨w.heap.size, 1, none⟩ = some (.int .u64 a1) ∧ w'.cell? ⟨w.heap.size + 1, 1, none⟩ = some (.int .u64 b1)) (simp [go_sem, World.cell?_alloc_past]) (fail)
  go_wp2
  rw [rounds_succ]
  go_wp2
  go_region_held3 (fun w' => w'.cell? ⟨w.heap.size, 2, none⟩ = some (.int .u64 a2) ∧ w'.cell? ⟨w.heap.size + 1, 2, none⟩ = some (.int .u64 b2)) (simp [go_sem, World.cell?_alloc_past]) (fail)
  go_wp2
  rw [rounds_succ]
  go_wp2
  go_region_held3 (fun w' => w'.cell? ⟨w.heap.size, 3, none⟩ = some (.int .u64 a3) ∧ w'.cell? ⟨w.heap.size + 1, 3, none⟩ = some (.int .u64 b3)) (simp [go_sem, World.cell?_alloc_past]) (fail)
  go_wp2
  clear e0 e1 e2 e3
  rw [rounds_succ]
  go_wp2_with fail
  by_cases hc : c4 = 0
  · subst hc
    refine (over_no _ _ _ _ _).mono ?_
    rintro e w1 ⟨rfl, hb⟩
    obtain ⟨hc, hf⟩ := bcell hb
    go_wp2
    refine bodyPost_ret (v := .tuple #[.agg #[.int .u64 s0, .int .u64 s1, .int .u64 s2, .int .u64 s3], .bool true]) (by simp [results, Tryz.results229, go_sem, hc]) rfl ⟨by simp, bsc4 (btr ?_ hb) (by omega) _ _ _ _⟩
    repeat (first | exact Below.refl _ _ | refine bal ?_ _ | refine Below.drew ?_)
  · refine (over_yes _ _ _ _ _ (by simpa using hc) _).mono ?_
    rintro e w1 ⟨rfl, hb⟩
    obtain ⟨hc, hf⟩ := bcell hb
    go_wp2
    refine bodyPost_ret (v := .tuple #[.agg #[.int .u64 0, .int .u64 0, .int .u64 0, .int .u64 0], .bool false]) (by simp [results, Tryz.results229, go_sem, hc]) rfl ⟨by simp [*], bsc4 (btr ?_ hb) (by omega) _ _ _ _⟩
    repeat (first | exact Below.refl _ _ | refine bal ?_ _ | refine Below.drew ?_)

/-- The sum of two numbers by their limbs: sums and carries. -/
theorem sum_limbs {x y : Nat} (hx : x < 2 ^ 256) (hy : y < 2 ^ 256) : ∃ s0 s1 s2 s3 c1 c2 c3 c4 : Int, Word s0 ∧ Word s1 ∧ Word s2 ∧ Word s3 ∧ (0 ≤ c1 ∧ c1 ≤ 1) ∧ (0 ≤ c2 ∧ c2 ≤ 1) ∧ (0 ≤ c3 ∧ c3 ≤ 1) ∧ (0 ≤ c4 ∧ c4 ≤ 1) ∧
    s0 + 18446744073709551616 * c1 = lb 0 x + lb 0 y + 0 ∧ s1 + 18446744073709551616 * c2 = lb 1 x + lb 1 y + c1 ∧ s2 + 18446744073709551616 * c3 = lb 2 x + lb 2 y + c2 ∧ s3 + 18446744073709551616 * c4 = lb 3 x + lb 3 y + c3 ∧
    (c4 = 0 ↔ x + y < 2 ^ 256) ∧ (c4 = 0 → lb 0 (x + y) = s0 ∧ lb 1 (x + y) = s1 ∧ lb 2 (x + y) = s2 ∧ lb 3 (x + y) = s3) := by
  have X := lb_sum x hx; have Y := lb_sum y hy
  have x0 := lb_word 0 x; have x1 := lb_word 1 x; have x2 := lb_word 2 x; have x3 := lb_word 3 x
  have y0 := lb_word 0 y; have y1 := lb_word 1 y; have y2 := lb_word 2 y; have y3 := lb_word 3 y
  generalize lb 0 x = a0 at *; generalize lb 1 x = a1 at *; generalize lb 2 x = a2 at *; generalize lb 3 x = a3 at *
  generalize lb 0 y = b0 at *; generalize lb 1 y = b1 at *; generalize lb 2 y = b2 at *; generalize lb 3 y = b3 at *
  have key : ∀ a b c : Int, Word a → Word b → 0 ≤ c → c ≤ 1 → ∃ s d : Int, Word s ∧ (0 ≤ d ∧ d ≤ 1) ∧ s + 18446744073709551616 * d = a + b + c := fun a b c ha hb h0 h1 => by
    unfold Word at *
    exact ⟨(a + b + c) % 18446744073709551616, (a + b + c) / 18446744073709551616, by omega, by omega, by omega⟩
  obtain ⟨s0, c1, w0, g1, e0⟩ := key a0 b0 0 x0 y0 (by omega) (by omega)
  obtain ⟨s1, c2, w1, g2, e1⟩ := key a1 b1 c1 x1 y1 g1.1 g1.2
  obtain ⟨s2, c3, w2, g3, e2⟩ := key a2 b2 c2 x2 y2 g2.1 g2.2
  obtain ⟨s3, c4, w3, g4, e3⟩ := key a3 b3 c3 x3 y3 g3.1 g3.2
  have hv := val4_lt w0 w1 w2 w3
  have tot : val4 s0 s1 s2 s3 + 2 ^ 256 * c4 = (x : Int) + y := by
    rw [← X, ← Y]; unfold val4; omega
  refine ⟨s0, s1, s2, s3, c1, c2, c3, c4, w0, w1, w2, w3, g1, g2, g3, g4, e0, e1, e2, e3, ⟨fun h => by omega, fun h => by omega⟩, fun h => lb_of w0 w1 w2 w3 (by push_cast; omega)⟩
/-- nat.Add, where the sum is a number. -/
theorem add_ok (x y : Nat) (hx : x < 2 ^ 256) (hy : y < 2 ^ 256) (h : x + y < 2 ^ 256) (w : World) :
    Calls Tryz.prog 229 #[N4 x, N4 y] w fun e w' => e = .returned (.tuple #[N4 (x + y), .bool true]) ∧ Below w.heap.size w w' := by
  obtain ⟨s0, s1, s2, s3, c1, c2, c3, c4, w0, w1, w2, w3, g1, g2, g3, g4, e0, e1, e2, e3, hi, hl⟩ := sum_limbs hx hy
  have h4 := hi.2 h
  obtain ⟨l0, l1, l2, l3⟩ := hl h4
  refine (add_core _ _ _ _ _ _ _ _ s0 s1 s2 s3 c1 c2 c3 c4 w (fun W => add64 (lb_word _ _) (lb_word _ _) (by omega) (by omega) w0 e0 W) (fun W => add64 (lb_word _ _) (lb_word _ _) g1.1 g1.2 w1 e1 W) (fun W => add64 (lb_word _ _) (lb_word _ _) g2.1 g2.2 w2 e2 W) (fun W => add64 (lb_word _ _) (lb_word _ _) g3.1 g3.2 w3 e3 W)).mono ?_
  rintro e w' ⟨he, hb⟩
  rw [if_pos h4] at he
  exact ⟨by rw [he]; simp only [N4, l0, l1, l2, l3], hb⟩
/-- nat.Add, where it is none. -/
theorem add_over (x y : Nat) (hx : x < 2 ^ 256) (hy : y < 2 ^ 256) (h : ¬ x + y < 2 ^ 256) (w : World) :
    Calls Tryz.prog 229 #[N4 x, N4 y] w fun e w' => e = .returned (.tuple #[N4 0, .bool false]) ∧ Below w.heap.size w w' := by
  obtain ⟨s0, s1, s2, s3, c1, c2, c3, c4, w0, w1, w2, w3, g1, g2, g3, g4, e0, e1, e2, e3, hi, hl⟩ := sum_limbs hx hy
  have h4 : ¬ c4 = 0 := fun k => h (hi.1 k)
  refine (add_core _ _ _ _ _ _ _ _ s0 s1 s2 s3 c1 c2 c3 c4 w (fun W => add64 (lb_word _ _) (lb_word _ _) (by omega) (by omega) w0 e0 W) (fun W => add64 (lb_word _ _) (lb_word _ _) g1.1 g1.2 w1 e1 W) (fun W => add64 (lb_word _ _) (lb_word _ _) g2.1 g2.2 w2 e2 W) (fun W => add64 (lb_word _ _) (lb_word _ _) g3.1 g3.2 w3 e3 W)).mono ?_
  rintro e w' ⟨he, hb⟩
  rw [if_neg h4] at he
  exact ⟨by rw [he]; simp only [N4, lb_zero], hb⟩
end Go.Proofs.YtbfgkogccfioiaaGreatDoor
