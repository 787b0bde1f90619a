/-
  entrepotlaw2.WholeChain answers true for every three whole numbers. The tables math/bits.deBruijn64tab, internal/strconv.uint64pow10 read as their initialisers lay them.
-/
import Derived.Test.YtbegblkfdnaloaaDoorChainWalk
namespace Go.Proofs.YtbegblkfdnaloaaDoor
open Go.RowKit Go.Shelf

theorem cv_three (x y : Int) : cmpv x y = -1 ∨ cmpv x y = 0 ∨ cmpv x y = 1 := by unfold cmpv; split; omega; split <;> omega
theorem cv_le (x y : Int) : cmpv x y ≤ 0 ↔ x ≤ y := by unfold cmpv; split; omega; split <;> omega
theorem cv_ge (x y : Int) : 0 ≤ cmpv x y ↔ y ≤ x := by unfold cmpv; split; omega; split <;> omega
theorem cv_eq (x y : Int) : cmpv x y = 0 ↔ x = y := by unfold cmpv; split; omega; split <;> omega
theorem cv_turn (x y : Int) : cmpv y x = -cmpv x y := by
  unfold cmpv
  rcases Int.lt_trichotomy x y with h | h | h
  · rw [if_neg (by omega), if_neg (by omega), if_pos (by omega)]; rfl
  · subst h; simp
  · rw [if_pos (by omega), if_neg (by omega), if_neg (by omega)]
theorem cv_neg (x y : Int) : cmpv (-x) (-y) = -cmpv x y := by
  unfold cmpv
  rcases Int.lt_trichotomy x y with h | h | h
  · rw [if_neg (by omega), if_neg (by omega), if_pos (by omega)]; rfl
  · subst h; simp
  · rw [if_pos (by omega), if_neg (by omega), if_neg (by omega)]
theorem chain_z (a b c : Int) (ha : a.natAbs < 2 ^ 256) (hb : b.natAbs < 2 ^ 256) (hc : c.natAbs < 2 ^ 256) (w : World) (hT : Tabs w) :
    Calls Tryd.prog 16 #[Iz a, Iz b, Iz c] w fun e w' => e = .returned (.bool true) ∧ Below w.heap.size w w' := by
  have k4 : ∀ W, Calls Tryd.prog 61 #[Iz b, Iz a] W fun e w' => e = .returned (.int .i64 (-cmpv a b)) ∧ Below W.heap.size W w' := fun W => by
    have := cmp_z b a hb ha W
    rwa [cv_turn a b] at this
  have k5 : ∀ W, Calls Tryd.prog 61 #[.agg #[.bool (!decide (a < 0) && !eq4 (lb 0 a.natAbs) (lb 1 a.natAbs) (lb 2 a.natAbs) (lb 3 a.natAbs) 0 0 0 0), .int .u64 (lb 0 a.natAbs), .int .u64 (lb 1 a.natAbs), .int .u64 (lb 2 a.natAbs), .int .u64 (lb 3 a.natAbs)],
      .agg #[.bool (!decide (b < 0) && !eq4 (lb 0 b.natAbs) (lb 1 b.natAbs) (lb 2 b.natAbs) (lb 3 b.natAbs) 0 0 0 0), .int .u64 (lb 0 b.natAbs), .int .u64 (lb 1 b.natAbs), .int .u64 (lb 2 b.natAbs), .int .u64 (lb 3 b.natAbs)]] W fun e w' => e = .returned (.int .i64 (-cmpv a b)) ∧ Below W.heap.size W w' := fun W => by
    rw [Iz_flip a ha, Iz_flip b hb]
    have := cmp_z (-a) (-b) (by omega) (by omega) W
    rwa [cv_neg a b] at this
  have hq : eq5 (decide (a < 0)) (lb 0 a.natAbs) (lb 1 a.natAbs) (lb 2 a.natAbs) (lb 3 a.natAbs) (decide (b < 0)) (lb 0 b.natAbs) (lb 1 b.natAbs) (lb 2 b.natAbs) (lb 3 b.natAbs) = decide (cmpv a b = 0) := by
    rw [eq5_Iz a b ha hb]
    by_cases h : a = b
    · rw [decide_eq_true h, decide_eq_true ((cv_eq a b).2 h)]
    · rw [decide_eq_false h, decide_eq_false (fun e => h ((cv_eq a b).1 e))]
  exact chain_yes _ _ _ _ _ _ _ _ _ _ _ _ _ _ _ _ _ _ (cv_three a b) (cv_three b c) (cv_three a c)
    (fun h1 h2 => (cv_le a c).2 (by have := (cv_le a b).1 h1; have := (cv_le b c).1 h2; omega)) (fun h1 h2 => (cv_ge a c).2 (by have := (cv_ge a b).1 h1; have := (cv_ge b c).1 h2; omega)) hq
    (may_z a ha) (may_z b hb) (may_z c hc) (fun W => cmp_z a b ha hb W) (fun W => cmp_z b c hb hc W) (fun W => cmp_z a c ha hc W) k4 k5 w hT
theorem chain_any (g : Bool) (x : Nat) (h : Bool) (y : Nat) (i : Bool) (z : Nat) (hx : x < 2 ^ 256) (hy : y < 2 ^ 256) (hz : z < 2 ^ 256) (w : World) (hT : Tabs w) :
    Calls Tryd.prog 16 #[I5 g x, I5 h y, I5 i z] w fun e w' => e = .returned (.bool true) ∧ Below w.heap.size w w' := by
  rcases int_or g x with ⟨a, ea, na⟩ | ⟨rfl, rfl⟩
  · rw [ea]
    rcases int_or h y with ⟨b, eb, nb⟩ | ⟨rfl, rfl⟩
    · rw [eb]
      rcases int_or i z with ⟨c, ec, nc⟩ | ⟨rfl, rfl⟩
      · rw [ec]; exact chain_z a b c (by omega) (by omega) (by omega) w hT
      · exact chain_no2 _ _ _ _ _ _ _ _ _ _ _ _ _ _ _ (may_z a (by omega)) (may_z b (by omega)) (fun W => may_no W) w hT
    · exact chain_no1 _ _ _ _ _ _ _ _ _ _ _ _ _ _ _ (may_z a (by omega)) (fun W => may_no W) w hT
  · exact chain_no0 _ _ _ _ _ _ _ _ _ _ _ _ _ _ _ (fun W => may_no W) w hT

end Go.Proofs.YtbegblkfdnaloaaDoor
