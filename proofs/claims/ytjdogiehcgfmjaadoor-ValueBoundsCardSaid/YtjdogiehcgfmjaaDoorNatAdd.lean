/-
  nat.Add and nat.Sub: the contracts, for all numbers of four words.
-/
import Derived.Test.YtjdogiehcgfmjaaDoorNatBase
namespace Go.Proofs.YtjdogiehcgfmjaaDoor
open Go.RowKit Go.Shelf

/-- The sum of two numbers by their limbs: sums and carries. -/
theorem sum_limbs {x y : Nat} (hx : x < 2 ^ 256) (hy : y < 2 ^ 256) : ∃ s0 s1 s2 s3 c1 c2 c3 c4 : Int, Word s0 ∧ Word s1 ∧ Word s2 ∧ Word s3 ∧ (0 ≤ c1 ∧ c1 ≤ 1) ∧ (0 ≤ c2 ∧ c2 ≤ 1) ∧ (0 ≤ c3 ∧ c3 ≤ 1) ∧ (0 ≤ c4 ∧ c4 ≤ 1) ∧
    s0 + 18446744073709551616 * c1 = lb 0 x + lb 0 y + 0 ∧ s1 + 18446744073709551616 * c2 = lb 1 x + lb 1 y + c1 ∧ s2 + 18446744073709551616 * c3 = lb 2 x + lb 2 y + c2 ∧ s3 + 18446744073709551616 * c4 = lb 3 x + lb 3 y + c3 ∧
    (c4 = 0 ↔ x + y < 2 ^ 256) ∧ (c4 = 0 → lb 0 (x + y) = s0 ∧ lb 1 (x + y) = s1 ∧ lb 2 (x + y) = s2 ∧ lb 3 (x + y) = s3) := by
  have X := lb_sum x hx; have Y := lb_sum y hy
  have x0 := lb_word 0 x; have x1 := lb_word 1 x; have x2 := lb_word 2 x; have x3 := lb_word 3 x
  have y0 := lb_word 0 y; have y1 := lb_word 1 y; have y2 := lb_word 2 y; have y3 := lb_word 3 y
  generalize lb 0 x = a0 at *; generalize lb 1 x = a1 at *; generalize lb 2 x = a2 at *; generalize lb 3 x = a3 at *
  generalize lb 0 y = b0 at *; generalize lb 1 y = b1 at *; generalize lb 2 y = b2 at *; generalize lb 3 y = b3 at *
  have key : ∀ a b c : Int, Word a → Word b → 0 ≤ c → c ≤ 1 → ∃ s d : Int, Word s ∧ (0 ≤ d ∧ d ≤ 1) ∧ s + 18446744073709551616 * d = a + b + c := fun a b c ha hb h0 h1 => by
    unfold Word at *
    exact ⟨(a + b + c) % 18446744073709551616, (a + b + c) / 18446744073709551616, by omega, by omega, by omega⟩
  obtain ⟨s0, c1, w0, g1, e0⟩ := key a0 b0 0 x0 y0 (by omega) (by omega)
  obtain ⟨s1, c2, w1, g2, e1⟩ := key a1 b1 c1 x1 y1 g1.1 g1.2
  obtain ⟨s2, c3, w2, g3, e2⟩ := key a2 b2 c2 x2 y2 g2.1 g2.2
  obtain ⟨s3, c4, w3, g4, e3⟩ := key a3 b3 c3 x3 y3 g3.1 g3.2
  have hv := val4_lt w0 w1 w2 w3
  have tot : val4 s0 s1 s2 s3 + 2 ^ 256 * c4 = (x : Int) + y := by
    rw [← X, ← Y]; unfold val4; omega
  refine ⟨s0, s1, s2, s3, c1, c2, c3, c4, w0, w1, w2, w3, g1, g2, g3, g4, e0, e1, e2, e3, ⟨fun h => by omega, fun h => by omega⟩, fun h => lb_of w0 w1 w2 w3 (by push_cast; omega)⟩
/-- The difference of two numbers by their limbs: differences and borrows. -/
theorem diff_limbs {x y : Nat} (hx : x < 2 ^ 256) (hy : y < 2 ^ 256) : ∃ s0 s1 s2 s3 c1 c2 c3 c4 : Int, Word s0 ∧ Word s1 ∧ Word s2 ∧ Word s3 ∧ (0 ≤ c1 ∧ c1 ≤ 1) ∧ (0 ≤ c2 ∧ c2 ≤ 1) ∧ (0 ≤ c3 ∧ c3 ≤ 1) ∧ (0 ≤ c4 ∧ c4 ≤ 1) ∧
    s0 = lb 0 x - lb 0 y - 0 + 18446744073709551616 * c1 ∧ s1 = lb 1 x - lb 1 y - c1 + 18446744073709551616 * c2 ∧ s2 = lb 2 x - lb 2 y - c2 + 18446744073709551616 * c3 ∧ s3 = lb 3 x - lb 3 y - c3 + 18446744073709551616 * c4 ∧
    (c4 = 0 ↔ y ≤ x) ∧ (c4 = 0 → lb 0 (x - y) = s0 ∧ lb 1 (x - y) = s1 ∧ lb 2 (x - y) = s2 ∧ lb 3 (x - y) = s3) := by
  have X := lb_sum x hx; have Y := lb_sum y hy
  have x0 := lb_word 0 x; have x1 := lb_word 1 x; have x2 := lb_word 2 x; have x3 := lb_word 3 x
  have y0 := lb_word 0 y; have y1 := lb_word 1 y; have y2 := lb_word 2 y; have y3 := lb_word 3 y
  generalize lb 0 x = a0 at *; generalize lb 1 x = a1 at *; generalize lb 2 x = a2 at *; generalize lb 3 x = a3 at *
  generalize lb 0 y = b0 at *; generalize lb 1 y = b1 at *; generalize lb 2 y = b2 at *; generalize lb 3 y = b3 at *
  have key : ∀ a b c : Int, Word a → Word b → 0 ≤ c → c ≤ 1 → ∃ s d : Int, Word s ∧ (0 ≤ d ∧ d ≤ 1) ∧ s = a - b - c + 18446744073709551616 * d := fun a b c ha hb h0 h1 => by
    unfold Word at *
    exact ⟨(a - b - c) % 18446744073709551616, - ((a - b - c) / 18446744073709551616), by omega, by omega, by omega⟩
  obtain ⟨s0, c1, w0, g1, e0⟩ := key a0 b0 0 x0 y0 (by omega) (by omega)
  obtain ⟨s1, c2, w1, g2, e1⟩ := key a1 b1 c1 x1 y1 g1.1 g1.2
  obtain ⟨s2, c3, w2, g3, e2⟩ := key a2 b2 c2 x2 y2 g2.1 g2.2
  obtain ⟨s3, c4, w3, g4, e3⟩ := key a3 b3 c3 x3 y3 g3.1 g3.2
  have hv := val4_lt w0 w1 w2 w3
  have tot : val4 s0 s1 s2 s3 = (x : Int) - y + 2 ^ 256 * c4 := by
    rw [← X, ← Y]; unfold val4; omega
  refine ⟨s0, s1, s2, s3, c1, c2, c3, c4, w0, w1, w2, w3, g1, g2, g3, g4, e0, e1, e2, e3, ⟨fun h => by omega, fun h => by omega⟩, fun h => lb_of w0 w1 w2 w3 (by omega)⟩

end Go.Proofs.YtjdogiehcgfmjaaDoor
