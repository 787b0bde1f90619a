/-
  nat.Cmp, nat.Len, nat.limbAt, nat.Low: the contracts, for all numbers of four words.
-/
import Derived.Test.YtjlgiejggcbgbaaGreatDoorNatMul
namespace Go.Proofs.YtjlgiejggcbgbaaGreatDoor
open Go.RowKit Go.Shelf

/-- -1, 0, 1. -/
def cmpv (x y : Int) : Int := if x < y then -1 else if x = y then 0 else 1

theorem compare_any (x y : Int) (w : World) : Calls Tryz.prog 87 #[.int .u64 x, .int .u64 y] w fun e w' => e = .returned (.int .i64 (cmpv x y)) ∧ w' = w := by
  rcases Int.lt_trichotomy x y with h | h | h
  · have h1 : cmpv x y = -1 := by unfold cmpv; rw [if_pos h]
    have H := Lib.hid h1; clear h1
    go_enter Tryz.func87, Tryz.ntmps87
    go_wp2
    go_ret
    exact ⟨by rw [H.out]; rfl, rfl⟩
  · subst h
    have h1 : cmpv x x = 0 := by unfold cmpv; simp
    have H := Lib.hid h1; clear h1
    go_enter Tryz.func87, Tryz.ntmps87
    go_wp2
    go_ret
    exact ⟨by rw [H.out]; rfl, rfl⟩
  · have h1 : cmpv x y = 1 := by unfold cmpv; rw [if_neg (by omega), if_neg (by omega)]
    have H := Lib.hid h1; clear h1
    have h2 : ¬ x < y := by omega
    go_enter Tryz.func87, Tryz.ntmps87
    go_wp2
    go_ret
    exact ⟨by rw [H.out]; rfl, rfl⟩

theorem cmp_at3 (a0 a1 a2 a3 b0 b1 b2 b3 : Int) (hne : (a3 != b3) = true) (w : World) : Calls Tryz.prog 72 #[.agg #[.int .u64 a0, .int .u64 a1, .int .u64 a2, .int .u64 a3], .agg #[.int .u64 b0, .int .u64 b1, .int .u64 b2, .int .u64 b3]] w fun e w' => e = .returned (.int .i64 (cmpv a3 b3)) ∧ Below w.heap.size w w' := by
  go_enter Tryz.func72, Tryz.ntmps72
  go_wp2
  refine wp_loop_rounds 5 ?_
  rw [rounds_succ]
  go_wp2
  go_region_held3 (fun w' => w'.cell? ⟨w.heap.size, 3, none⟩ = some (.int .u64 a3) ∧ w'.cell? ⟨w.heap.size + 1, 3, none⟩ = some (.int .u64 b3)) (simp [go_sem, World.cell?_alloc_past]) (fail)
  go_wp2
  go_region_held3 (fun w' => w'.cell? ⟨w.heap.size, 3, none⟩ = some (.int .u64 a3) ∧ w'.cell? ⟨w.heap.size + 1, 3, none⟩ = some (.int .u64 b3)) (simp [go_sem, World.cell?_alloc_past]) (first | (go_at_call 87; refine (compare_any _ _ _).mono ?_; rintro e w' ⟨rfl, rfl⟩))
  go_wp2
  go_ret
  refine ⟨rfl, ?_⟩
  repeat (first | exact Below.refl _ _ | refine bal ?_ _ | refine Below.drew ?_ | refine bdn ?_ _)

theorem cmp_at2 (a0 a1 a2 a3 b0 b1 b2 : Int) (hne : (a2 != b2) = true) (w : World) : Calls Tryz.prog 72 #[.agg #[.int .u64 a0, .int .u64 a1, .int .u64 a2, .int .u64 a3], .agg #[.int .u64 b0, .int .u64 b1, .int .u64 b2, .int .u64 a3]] w fun e w' => e = .returned (.int .i64 (cmpv a2 b2)) ∧ Below w.heap.size w w' := by
  go_enter Tryz.func72, Tryz.ntmps72
  go_wp2
  refine wp_loop_rounds 5 ?_
  rw [rounds_succ]
  go_wp2
  go_region_held3 (fun w' => w'.cell? ⟨w.heap.size, 3, none⟩ = some (.int .u64 a3) ∧ w'.cell? ⟨w.heap.size + 1, 3, none⟩ = some (.int .u64 a3)) (simp [go_sem, World.cell?_alloc_past]) (fail)
  go_wp2
  rw [rounds_succ]
  go_wp2
  go_region_held3 (fun w' => w'.cell? ⟨w.heap.size, 2, none⟩ = some (.int .u64 a2) ∧ w'.cell? ⟨w.heap.size + 1, 2, none⟩ = some (.int .u64 b2)) (simp [go_sem, World.cell?_alloc_past]) (fail)
  go_wp2
  go_region_held3 (fun w' => w'.cell? ⟨w.heap.size, 2, none⟩ = some (.int .u64 a2) ∧ w'.cell? ⟨w.heap.size + 1, 2, none⟩ = some (.int .u64 b2)) (simp [go_sem, World.cell?_alloc_past]) (first | (go_at_call 87; refine (compare_any _ _ _).mono ?_; rintro e w' ⟨rfl, rfl⟩))
  go_wp2
  go_ret
  refine ⟨rfl, ?_⟩
  repeat (first | exact Below.refl _ _ | refine bal ?_ _ | refine Below.drew ?_ | refine bdn ?_ _)

theorem cmp_at1 (a0 a1 a2 a3 b0 b1 : Int) (hne : (a1 != b1) = true) (w : World) : Calls Tryz.prog 72 #[.agg #[.int .u64 a0, .int .u64 a1, .int .u64 a2, .int .u64 a3], .agg #[.int .u64 b0, .int .u64 b1, .int .u64 a2, .int .u64 a3]] w fun e w' => e = .returned (.int .i64 (cmpv a1 b1)) ∧ Below w.heap.size w w' := by
  go_enter Tryz.func72, Tryz.ntmps72
  go_wp2
  refine wp_loop_rounds 5 ?_
  rw [rounds_succ]
  go_wp2
  go_region_held3 (fun w' => w'.cell? ⟨w.heap.size, 3, none⟩ = some (.int .u64 a3) ∧ w'.cell? ⟨w.heap.size + 1, 3, none⟩ = some (.int .u64 a3)) (simp [go_sem, World.cell?_alloc_past]) (fail)
  go_wp2
  rw [rounds_succ]
  go_wp2
  go_region_held3 (fun w' => w'.cell? ⟨w.heap.size, 2, none⟩ = some (.int .u64 a2) ∧ w'.cell? ⟨w.heap.size + 1, 2, none⟩ = some (.int .u64 a2)) (simp [go_sem, World.cell?_alloc_past]) (fail)
  go_wp2
  rw [rounds_succ]
  go_wp2
  go_region_held3 (fun w' => w'.cell? ⟨w.heap.size, 1, none⟩ = some (.int .u64 a1) ∧ w'.cell? ⟨w.heap.size + 1, 1, none⟩ = some (.int .u64 b1)) (simp [go_sem, World.cell?_alloc_past]) (fail)
  go_wp2
  go_region_held3 (fun w' => w'.cell? ⟨w.heap.size, 1, none⟩ = some (.int .u64 a1) ∧ w'.cell? ⟨w.heap.size + 1, 1, none⟩ = some (.int .u64 b1)) (simp [go_sem, World.cell?_alloc_past]) (first | (go_at_call 87; refine (compare_any _ _ _).mono ?_; rintro e w' ⟨rfl, rfl⟩))
  go_wp2
  go_ret
  refine ⟨rfl, ?_⟩
  repeat (first | exact Below.refl _ _ | refine bal ?_ _ | refine Below.drew ?_ | refine bdn ?_ _)

theorem cmp_at0 (a0 a1 a2 a3 b0 : Int) (hne : (a0 != b0) = true) (w : World) : Calls Tryz.prog 72 #[.agg #[.int .u64 a0, .int .u64 a1, .int .u64 a2, .int .u64 a3], .agg #[.int .u64 b0, .int .u64 a1, .int .u64 a2, .int .u64 a3]] w fun e w' => e = .returned (.int .i64 (cmpv a0 b0)) ∧ Below w.heap.size w w' := by
  go_enter Tryz.func72, Tryz.ntmps72
  go_wp2
  refine wp_loop_rounds 5 ?_
  rw [rounds_succ]
  go_wp2
  go_region_held3 (fun w' => w'.cell? ⟨w.heap.size, 3, none⟩ = some (.int .u64 a3) ∧ w'.cell? ⟨w.heap.size + 1, 3, none⟩ = some (.int .u64 a3)) (simp [go_sem, World.cell?_alloc_past]) (fail)
  go_wp2
  rw [rounds_succ]
  go_wp2
  go_region_held3 (fun w' => w'.cell? ⟨w.heap.size, 2, none⟩ = some (.int .u64 a2) ∧ w'.cell? ⟨w.heap.size + 1, 2, none⟩ = some (.int .u64 a2)) (simp [go_sem, World.cell?_alloc_past]) (fail)
  go_wp2
  rw [rounds_succ]
  go_wp2
  go_region_held3 (fun w' => w'.cell? ⟨w.heap.size, 1, none⟩ = some (.int .u64 a1) ∧ w'.cell? ⟨w.heap.size + 1, 1, none⟩ = some (.int .u64 a1)) (simp [go_sem, World.cell?_alloc_past]) (fail)
  go_wp2
  rw [rounds_succ]
  go_wp2
  go_region_held3 (fun w' => w'.cell? ⟨w.heap.size, 0, none⟩ = some (.int .u64 a0) ∧ w'.cell? ⟨w.heap.size + 1, 0, none⟩ = some (.int .u64 b0)) (simp [go_sem, World.cell?_alloc_past]) (fail)
  go_wp2
  go_region_held3 (fun w' => w'.cell? ⟨w.heap.size, 0, none⟩ = some (.int .u64 a0) ∧ w'.cell? ⟨w.heap.size + 1, 0, none⟩ = some (.int .u64 b0)) (simp [go_sem, World.cell?_alloc_past]) (first | (go_at_call 87; refine (compare_any _ _ _).mono ?_; rintro e w' ⟨rfl, rfl⟩))
  go_wp2
  go_ret
  refine ⟨rfl, ?_⟩
  repeat (first | exact Below.refl _ _ | refine bal ?_ _ | refine Below.drew ?_ | refine bdn ?_ _)

theorem cmp_atall (a0 a1 a2 a3 : Int) (w : World) : Calls Tryz.prog 72 #[.agg #[.int .u64 a0, .int .u64 a1, .int .u64 a2, .int .u64 a3], .agg #[.int .u64 a0, .int .u64 a1, .int .u64 a2, .int .u64 a3]] w fun e w' => e = .returned (.int .i64 (0)) ∧ Below w.heap.size w w' := by
  go_enter Tryz.func72, Tryz.ntmps72
  go_wp2
  refine wp_loop_rounds 5 ?_
  rw [rounds_succ]
  go_wp2
  go_region_held3 (fun w' => w'.cell? ⟨w.heap.size, 3, none⟩ = some (.int .u64 a3) ∧ w'.cell? ⟨w.heap.size + 1, 3, none⟩ = some (.int .u64 a3)) (simp [go_sem, World.cell?_alloc_past]) (fail)
  go_wp2
  rw [rounds_succ]
  go_wp2
  go_region_held3 (fun w' => w'.cell? ⟨w.heap.size, 2, none⟩ = some (.int .u64 a2) ∧ w'.cell? ⟨w.heap.size + 1, 2, none⟩ = some (.int .u64 a2)) (simp [go_sem, World.cell?_alloc_past]) (fail)
  go_wp2
  rw [rounds_succ]
  go_wp2
  go_region_held3 (fun w' => w'.cell? ⟨w.heap.size, 1, none⟩ = some (.int .u64 a1) ∧ w'.cell? ⟨w.heap.size + 1, 1, none⟩ = some (.int .u64 a1)) (simp [go_sem, World.cell?_alloc_past]) (fail)
  go_wp2
  rw [rounds_succ]
  go_wp2
  go_region_held3 (fun w' => w'.cell? ⟨w.heap.size, 0, none⟩ = some (.int .u64 a0) ∧ w'.cell? ⟨w.heap.size + 1, 0, none⟩ = some (.int .u64 a0)) (simp [go_sem, World.cell?_alloc_past]) (fail)
  go_wp2
  rw [rounds_succ]
  go_wp2
  go_ret
  refine ⟨rfl, ?_⟩
  repeat (first | exact Below.refl _ _ | refine bal ?_ _ | refine Below.drew ?_ | refine bdn ?_ _)


/-- nat.Cmp. -/
theorem cmp_any (x y : Nat) (hx : x < 2 ^ 256) (hy : y < 2 ^ 256) (w : World) : Calls Tryz.prog 72 #[N4 x, N4 y] w fun e w' => e = .returned (.int .i64 (cmpv x y)) ∧ Below w.heap.size w w' := by
  have X := lb_sum x hx; have Y := lb_sum y hy
  have x0 := lb_word 0 x; have x1 := lb_word 1 x; have x2 := lb_word 2 x; have x3 := lb_word 3 x
  have y0 := lb_word 0 y; have y1 := lb_word 1 y; have y2 := lb_word 2 y; have y3 := lb_word 3 y
  unfold N4
  generalize lb 0 x = a0 at *; generalize lb 1 x = a1 at *; generalize lb 2 x = a2 at *; generalize lb 3 x = a3 at *
  generalize lb 0 y = b0 at *; generalize lb 1 y = b1 at *; generalize lb 2 y = b2 at *; generalize lb 3 y = b3 at *
  rw [← X, ← Y]
  unfold val4 Word at *
  by_cases h3 : a3 = b3
  · subst h3
    by_cases h2 : a2 = b2
    · subst h2
      by_cases h1 : a1 = b1
      · subst h1
        by_cases h0 : a0 = b0
        · subst h0
          refine (cmp_atall a0 a1 a2 a3 w).mono ?_
          rintro e w' ⟨rfl, hb⟩
          exact ⟨by simp [cmpv], hb⟩
        · refine (cmp_at0 a0 a1 a2 a3 b0 (by simpa using h0) w).mono ?_
          rintro e w' ⟨rfl, hb⟩
          refine ⟨?_, hb⟩
          congr 2; unfold cmpv; split <;> split <;> (try split) <;> (try split) <;> omega
      · refine (cmp_at1 a0 a1 a2 a3 b0 b1 (by simpa using h1) w).mono ?_
        rintro e w' ⟨rfl, hb⟩
        refine ⟨?_, hb⟩
        congr 2; unfold cmpv; split <;> split <;> (try split) <;> (try split) <;> omega
    · refine (cmp_at2 a0 a1 a2 a3 b0 b1 b2 (by simpa using h2) w).mono ?_
      rintro e w' ⟨rfl, hb⟩
      refine ⟨?_, hb⟩
      congr 2; unfold cmpv; split <;> split <;> (try split) <;> (try split) <;> omega
  · refine (cmp_at3 a0 a1 a2 a3 b0 b1 b2 b3 (by simpa using h3) w).mono ?_
    rintro e w' ⟨rfl, hb⟩
    refine ⟨?_, hb⟩
    congr 2; unfold cmpv; split <;> split <;> (try split) <;> (try split) <;> omega

end Go.Proofs.YtjlgiejggcbgbaaGreatDoor
