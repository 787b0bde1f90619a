/-
  nat.Cmp, whole.May, whole.Cmp: their contracts once more, with what a sort asks of them: the draws are not fewer. For all whole numbers below 2^256 in size.
-/
import Derived.Test.YtjlgiejggcbgbaaGreatDoorWholeE
import Derived.Lib.QuietBelow
import Derived.Deep.Draws
namespace Go.Proofs.YtjlgiejggcbgbaaGreatDoor
open Go.RowKit Go.Shelf
open Go.Sort (grow)
attribute [local go_sem ↓] eql_nat neq_nat eql_int5 neq_int5

/-- Of what was there nothing has turned, and the draws are not fewer. -/
def Gr (w w' : World) : Prop := Below w.heap.size w w' ∧ w.drawn ≤ w'.drawn
theorem Gr.refl (w : World) : Gr w w := ⟨Below.refl _ _, Nat.le_refl _⟩
theorem gal {w X : World} (h : Gr w X) (o : Obj) : Gr w (X.alloc o) := ⟨bal h.1 o, h.2⟩
theorem gdw {w X : World} (h : Gr w X) : Gr w X.drew := ⟨h.1.drew, Nat.le_succ_of_le h.2⟩
theorem gdn {w X : World} (h : Gr w X) (n : Nat) : Gr w (X.drewN n) := ⟨bdn h.1 n, Nat.le_trans h.2 (Nat.le_add_right _ _)⟩
theorem gtr {w X Y : World} (h : Gr w X) (k : Gr X Y) : Gr w Y := ⟨btr h.1 k.1, Nat.le_trans h.2 k.2⟩
theorem Gr.grown {w w' : World} (h : Gr w w') : ∃ (q : Nat) (os : Array Obj), w' = grow (w.drewN q) os := by
  obtain ⟨p, hp⟩ := regrown_of_below h.1
  have hd : w'.drawn = p.d := by rw [hp]; rfl
  refine ⟨p.d - w.drawn, p.os, ?_⟩
  rw [hp]
  have : redrawn w p.d = w.drewN (p.d - w.drawn) := by
    unfold redrawn World.drewN
    rw [Nat.add_sub_cancel' (by rw [← hd]; exact h.2)]
  rw [this]

theorem gcmp_at3 (a0 a1 a2 a3 b0 b1 b2 b3 : Int) (hne : (a3 != b3) = true) (w : World) : Calls Tryz.prog 72 #[.agg #[.int .u64 a0, .int .u64 a1, .int .u64 a2, .int .u64 a3], .agg #[.int .u64 b0, .int .u64 b1, .int .u64 b2, .int .u64 b3]] w fun e w' => e = .returned (.int .i64 (cmpv a3 b3)) ∧ Gr w w' := by
  go_enter Tryz.func72, Tryz.ntmps72
  go_wp2
  refine wp_loop_rounds 5 ?_
  rw [rounds_succ]
  go_wp2
  go_region_held3 (fun w' => w'.cell? ⟨w.heap.size, 3, none⟩ = some (.int .u64 a3) ∧ w'.cell? ⟨w.heap.size + 1, 3, none⟩ = some (.int .u64 b3)) (simp [go_sem, World.cell?_alloc_past]) (fail)
  go_wp2
  go_region_held3 (fun w' => w'.cell? ⟨w.heap.size, 3, none⟩ = some (.int .u64 a3) ∧ w'.cell? ⟨w.heap.size + 1, 3, none⟩ = some (.int .u64 b3)) (simp [go_sem, World.cell?_alloc_past]) (first | (go_at_call 87; refine (compare_any _ _ _).mono ?_; rintro e w' ⟨rfl, rfl⟩))
  go_wp2
  go_ret
  refine ⟨rfl, ?_⟩
  repeat (first | exact Gr.refl _ | refine gal ?_ _ | refine gdw ?_ | refine gdn ?_ _)

theorem gcmp_at2 (a0 a1 a2 a3 b0 b1 b2 : Int) (hne : (a2 != b2) = true) (w : World) : Calls Tryz.prog 72 #[.agg #[.int .u64 a0, .int .u64 a1, .int .u64 a2, .int .u64 a3], .agg #[.int .u64 b0, .int .u64 b1, .int .u64 b2, .int .u64 a3]] w fun e w' => e = .returned (.int .i64 (cmpv a2 b2)) ∧ Gr w w' := by
  go_enter Tryz.func72, Tryz.ntmps72
  go_wp2
  refine wp_loop_rounds 5 ?_
  rw [rounds_succ]
  go_wp2
  go_region_held3 (fun w' => w'.cell? ⟨w.heap.size, 3, none⟩ = some (.int .u64 a3) ∧ w'.cell? ⟨w.heap.size + 1, 3, none⟩ = some (.int .u64 a3)) (simp [go_sem, World.cell?_alloc_past]) (fail)
  go_wp2
  rw [rounds_succ]
  go_wp2
  go_region_held3 (fun w' => w'.cell? ⟨w.heap.size, 2, none⟩ = some (.int .u64 a2) ∧ w'.cell? ⟨w.heap.size + 1, 2, none⟩ = some (.int .u64 b2)) (simp [go_sem, World.cell?_alloc_past]) (fail)
  go_wp2
  go_region_held3 (fun w' => w'.cell? ⟨w.heap.size, 2, none⟩ = some (.int .u64 a2) ∧ w'.cell? ⟨w.heap.size + 1, 2, none⟩ = some (.int .u64 b2)) (simp [go_sem, World.cell?_alloc_past]) (first | (go_at_call 87; refine (compare_any _ _ _).mono ?_; rintro e w' ⟨rfl, rfl⟩))
  go_wp2
  go_ret
  refine ⟨rfl, ?_⟩
  repeat (first | exact Gr.refl _ | refine gal ?_ _ | refine gdw ?_ | refine gdn ?_ _)

theorem gcmp_at1 (a0 a1 a2 a3 b0 b1 : Int) (hne : (a1 != b1) = true) (w : World) : Calls Tryz.prog 72 #[.agg #[.int .u64 a0, .int .u64 a1, .int .u64 a2, .int .u64 a3], .agg #[.int .u64 b0, .int .u64 b1, .int .u64 a2, .int .u64 a3]] w fun e w' => e = .returned (.int .i64 (cmpv a1 b1)) ∧ Gr w w' := by
  go_enter Tryz.func72, Tryz.ntmps72
  go_wp2
  refine wp_loop_rounds 5 ?_
  rw [rounds_succ]
  go_wp2
  go_region_held3 (fun w' => w'.cell? ⟨w.heap.size, 3, none⟩ = some (.int .u64 a3) ∧ w'.cell? ⟨w.heap.size + 1, 3, none⟩ = some (.int .u64 a3)) (simp [go_sem, World.cell?_alloc_past]) (fail)
  go_wp2
  rw [rounds_succ]
  go_wp2
  go_region_held3 (fun w' => w'.cell? ⟨w.heap.size, 2, none⟩ = some (.int .u64 a2) ∧ w'.cell? ⟨w.heap.size + 1, 2, none⟩ = some (.int .u64 a2)) (simp [go_sem, World.cell?_alloc_past]) (fail)
  go_wp2
  rw [rounds_succ]
  go_wp2
  go_region_held3 (fun w' => w'.cell? ⟨w.heap.size, 1, none⟩ = some (.int .u64 a1) ∧ w'.cell? ⟨w.heap.size + 1, 1, none⟩ = some (.int .u64 b1)) (simp [go_sem, World.cell?_alloc_past]) (fail)
  go_wp2
  go_region_held3 (fun w' => w'.cell? ⟨w.heap.size, 1, none⟩ = some (.int .u64 a1) ∧ w'.cell? ⟨w.heap.size + 1, 1, none⟩ = some (.int .u64 b1)) (simp [go_sem, World.cell?_alloc_past]) (first | (go_at_call 87; refine (compare_any _ _ _).mono ?_; rintro e w' ⟨rfl, rfl⟩))
  go_wp2
  go_ret
  refine ⟨rfl, ?_⟩
  repeat (first | exact Gr.refl _ | refine gal ?_ _ | refine gdw ?_ | refine gdn ?_ _)

theorem gcmp_at0 (a0 a1 a2 a3 b0 : Int) (hne : (a0 != b0) = true) (w : World) : Calls Tryz.prog 72 #[.agg #[.int .u64 a0, .int .u64 a1, .int .u64 a2, .int .u64 a3], .agg #[.int .u64 b0, .int .u64 a1, .int .u64 a2, .int .u64 a3]] w fun e w' => e = .returned (.int .i64 (cmpv a0 b0)) ∧ Gr w w' := by
  go_enter Tryz.func72, Tryz.ntmps72
  go_wp2
  refine wp_loop_rounds 5 ?_
  rw [rounds_succ]
  go_wp2
  go_region_held3 (fun w' => w'.cell? ⟨w.heap.size, 3, none⟩ = some (.int .u64 a3) ∧ w'.cell? ⟨w.heap.size + 1, 3, none⟩ = some (.int .u64 a3)) (simp [go_sem, World.cell?_alloc_past]) (fail)
  go_wp2
  rw [rounds_succ]
  go_wp2
  go_region_held3 (fun w' => w'.cell? ⟨w.heap.size, 2, none⟩ = some (.int .u64 a2) ∧ w'.cell? ⟨w.heap.size + 1, 2, none⟩ = some (.int .u64 a2)) (simp [go_sem, World.cell?_alloc_past]) (fail)
  go_wp2
  rw [rounds_succ]
  go_wp2
  go_region_held3 (fun w' => w'.cell? ⟨w.heap.size, 1, none⟩ = some (.int .u64 a1) ∧ w'.cell? ⟨w.heap.size + 1, 1, none⟩ = some (.int .u64 a1)) (simp [go_sem, World.cell?_alloc_past]) (fail)
  go_wp2
  rw [rounds_succ]
  go_wp2
  go_region_held3 (fun w' => w'.cell? ⟨w.heap.size, 0, none⟩ = some (.int .u64 a0) ∧ w'.cell? ⟨w.heap.size + 1, 0, none⟩ = some (.int .u64 b0)) (simp [go_sem, World.cell?_alloc_past]) (fail)
  go_wp2
  go_region_held3 (fun w' => w'.cell? ⟨w.heap.size, 0, none⟩ = some (.int .u64 a0) ∧ w'.cell? ⟨w.heap.size + 1, 0, none⟩ = some (.int .u64 b0)) (simp [go_sem, World.cell?_alloc_past]) (first | (go_at_call 87; refine (compare_any _ _ _).mono ?_; rintro e w' ⟨rfl, rfl⟩))
  go_wp2
  go_ret
  refine ⟨rfl, ?_⟩
  repeat (first | exact Gr.refl _ | refine gal ?_ _ | refine gdw ?_ | refine gdn ?_ _)

theorem gcmp_atall (a0 a1 a2 a3 : Int) (w : World) : Calls Tryz.prog 72 #[.agg #[.int .u64 a0, .int .u64 a1, .int .u64 a2, .int .u64 a3], .agg #[.int .u64 a0, .int .u64 a1, .int .u64 a2, .int .u64 a3]] w fun e w' => e = .returned (.int .i64 (0)) ∧ Gr w w' := by
  go_enter Tryz.func72, Tryz.ntmps72
  go_wp2
  refine wp_loop_rounds 5 ?_
  rw [rounds_succ]
  go_wp2
  go_region_held3 (fun w' => w'.cell? ⟨w.heap.size, 3, none⟩ = some (.int .u64 a3) ∧ w'.cell? ⟨w.heap.size + 1, 3, none⟩ = some (.int .u64 a3)) (simp [go_sem, World.cell?_alloc_past]) (fail)
  go_wp2
  rw [rounds_succ]
  go_wp2
  go_region_held3 (fun w' => w'.cell? ⟨w.heap.size, 2, none⟩ = some (.int .u64 a2) ∧ w'.cell? ⟨w.heap.size + 1, 2, none⟩ = some (.int .u64 a2)) (simp [go_sem, World.cell?_alloc_past]) (fail)
  go_wp2
  rw [rounds_succ]
  go_wp2
  go_region_held3 (fun w' => w'.cell? ⟨w.heap.size, 1, none⟩ = some (.int .u64 a1) ∧ w'.cell? ⟨w.heap.size + 1, 1, none⟩ = some (.int .u64 a1)) (simp [go_sem, World.cell?_alloc_past]) (fail)
  go_wp2
  rw [rounds_succ]
  go_wp2
  go_region_held3 (fun w' => w'.cell? ⟨w.heap.size, 0, none⟩ = some (.int .u64 a0) ∧ w'.cell? ⟨w.heap.size + 1, 0, none⟩ = some (.int .u64 a0)) (simp [go_sem, World.cell?_alloc_past]) (fail)
  go_wp2
  rw [rounds_succ]
  go_wp2
  go_ret
  refine ⟨rfl, ?_⟩
  repeat (first | exact Gr.refl _ | refine gal ?_ _ | refine gdw ?_ | refine gdn ?_ _)


/-- nat.Cmp. -/
theorem gcmp_any (x y : Nat) (hx : x < 2 ^ 256) (hy : y < 2 ^ 256) (w : World) : Calls Tryz.prog 72 #[N4 x, N4 y] w fun e w' => e = .returned (.int .i64 (cmpv x y)) ∧ Gr w w' := by
  have X := lb_sum x hx; have Y := lb_sum y hy
  have x0 := lb_word 0 x; have x1 := lb_word 1 x; have x2 := lb_word 2 x; have x3 := lb_word 3 x
  have y0 := lb_word 0 y; have y1 := lb_word 1 y; have y2 := lb_word 2 y; have y3 := lb_word 3 y
  unfold N4
  generalize lb 0 x = a0 at *; generalize lb 1 x = a1 at *; generalize lb 2 x = a2 at *; generalize lb 3 x = a3 at *
  generalize lb 0 y = b0 at *; generalize lb 1 y = b1 at *; generalize lb 2 y = b2 at *; generalize lb 3 y = b3 at *
  rw [← X, ← Y]
  unfold val4 Word at *
  by_cases h3 : a3 = b3
  · subst h3
    by_cases h2 : a2 = b2
    · subst h2
      by_cases h1 : a1 = b1
      · subst h1
        by_cases h0 : a0 = b0
        · subst h0
          refine (gcmp_atall a0 a1 a2 a3 w).mono ?_
          rintro e w' ⟨rfl, hb⟩
          exact ⟨by simp [cmpv], hb⟩
        · refine (gcmp_at0 a0 a1 a2 a3 b0 (by simpa using h0) w).mono ?_
          rintro e w' ⟨rfl, hb⟩
          refine ⟨?_, hb⟩
          congr 2; unfold cmpv; split <;> split <;> (try split) <;> (try split) <;> omega
      · refine (gcmp_at1 a0 a1 a2 a3 b0 b1 (by simpa using h1) w).mono ?_
        rintro e w' ⟨rfl, hb⟩
        refine ⟨?_, hb⟩
        congr 2; unfold cmpv; split <;> split <;> (try split) <;> (try split) <;> omega
    · refine (gcmp_at2 a0 a1 a2 a3 b0 b1 b2 (by simpa using h2) w).mono ?_
      rintro e w' ⟨rfl, hb⟩
      refine ⟨?_, hb⟩
      congr 2; unfold cmpv; split <;> split <;> (try split) <;> (try split) <;> omega
  · refine (gcmp_at3 a0 a1 a2 a3 b0 b1 b2 b3 (by simpa using h3) w).mono ?_
    rintro e w' ⟨rfl, hb⟩
    refine ⟨?_, hb⟩
    congr 2; unfold cmpv; split <;> split <;> (try split) <;> (try split) <;> omega

set_option maxRecDepth 100000 in
theorem gcmp_bad1 (x0 x1 x2 x3 y0 y1 y2 y3 : Int) (g h : Bool)
    (m1 : ∀ W, Calls Tryz.prog 26 #[.agg #[.bool g, .int .u64 x0, .int .u64 x1, .int .u64 x2, .int .u64 x3]] W fun e w' => e = .returned (.bool false) ∧ Gr W w') (w : World) :
    Calls Tryz.prog 43 #[.agg #[.bool g, .int .u64 x0, .int .u64 x1, .int .u64 x2, .int .u64 x3], .agg #[.bool h, .int .u64 y0, .int .u64 y1, .int .u64 y2, .int .u64 y3]] w fun e w' => e = .returned (.int .i64 0) ∧ Gr w w' := by
  have M1 := Lib.hid m1; clear m1
  go_enter Tryz.func43, Tryz.ntmps43
  go_wp2_with fail
  (with_reducible refine (M1.out _).mono ?_)
  rintro e w1 ⟨rfl, hb⟩
  have BW1 : Gr w w1 := gtr (by repeat (first | (with_reducible exact Gr.refl _) | (with_reducible refine gal ?_ _) | (with_reducible refine gdw ?_) | (with_reducible refine gdn ?_ _))) hb
  have X1 : Row5 w1 w.heap.size (.bool g) (.int .u64 x0) (.int .u64 x1) (.int .u64 x2) (.int .u64 x3) := Row5.keep hb.1 (by repeat (first | (with_reducible exact Row5.new _ _ _ _ _ _) | ((with_reducible refine Row5.new' _ ?_ _ _ _ _ _); (simp; done)) | (with_reducible refine Row5.alloc ?_ _) | (with_reducible refine Row5.drew ?_)))
  have Y1 : Row5 w1 (w.heap.size + 1) (.bool h) (.int .u64 y0) (.int .u64 y1) (.int .u64 y2) (.int .u64 y3) := Row5.keep hb.1 (by repeat (first | (with_reducible exact Row5.new _ _ _ _ _ _) | ((with_reducible refine Row5.new' _ ?_ _ _ _ _ _); (simp; done)) | (with_reducible refine Row5.alloc ?_ _) | (with_reducible refine Row5.drew ?_)))
  clear hb
  obtain ⟨Xc0, Xc1, Xc2, Xc3, Xc4⟩ := X1.parts
  obtain ⟨Xf0, Xf1, Xf2, Xf3, Xf4⟩ := X1.free
  obtain ⟨Yc0, Yc1, Yc2, Yc3, Yc4⟩ := Y1.parts
  obtain ⟨Yf0, Yf1, Yf2, Yf3, Yf4⟩ := Y1.free
  go_wp2
  go_ret
  exact ⟨rfl, BW1⟩

set_option maxRecDepth 100000 in
theorem gcmp_bad2 (x0 x1 x2 x3 y0 y1 y2 y3 : Int) (g h : Bool)
    (m1 : ∀ W, Calls Tryz.prog 26 #[.agg #[.bool g, .int .u64 x0, .int .u64 x1, .int .u64 x2, .int .u64 x3]] W fun e w' => e = .returned (.bool true) ∧ Gr W w')
    (m2 : ∀ W, Calls Tryz.prog 26 #[.agg #[.bool h, .int .u64 y0, .int .u64 y1, .int .u64 y2, .int .u64 y3]] W fun e w' => e = .returned (.bool false) ∧ Gr W w') (w : World) :
    Calls Tryz.prog 43 #[.agg #[.bool g, .int .u64 x0, .int .u64 x1, .int .u64 x2, .int .u64 x3], .agg #[.bool h, .int .u64 y0, .int .u64 y1, .int .u64 y2, .int .u64 y3]] w fun e w' => e = .returned (.int .i64 0) ∧ Gr w w' := by
  have M1 := Lib.hid m1; clear m1
  have M2 := Lib.hid m2; clear m2
  go_enter Tryz.func43, Tryz.ntmps43
  go_wp2_with fail
  (with_reducible refine (M1.out _).mono ?_)
  rintro e w1 ⟨rfl, hb⟩
  have BW1 : Gr w w1 := gtr (by repeat (first | (with_reducible exact Gr.refl _) | (with_reducible refine gal ?_ _) | (with_reducible refine gdw ?_) | (with_reducible refine gdn ?_ _))) hb
  have X1 : Row5 w1 w.heap.size (.bool g) (.int .u64 x0) (.int .u64 x1) (.int .u64 x2) (.int .u64 x3) := Row5.keep hb.1 (by repeat (first | (with_reducible exact Row5.new _ _ _ _ _ _) | ((with_reducible refine Row5.new' _ ?_ _ _ _ _ _); (simp; done)) | (with_reducible refine Row5.alloc ?_ _) | (with_reducible refine Row5.drew ?_)))
  have Y1 : Row5 w1 (w.heap.size + 1) (.bool h) (.int .u64 y0) (.int .u64 y1) (.int .u64 y2) (.int .u64 y3) := Row5.keep hb.1 (by repeat (first | (with_reducible exact Row5.new _ _ _ _ _ _) | ((with_reducible refine Row5.new' _ ?_ _ _ _ _ _); (simp; done)) | (with_reducible refine Row5.alloc ?_ _) | (with_reducible refine Row5.drew ?_)))
  clear hb
  obtain ⟨Xc0, Xc1, Xc2, Xc3, Xc4⟩ := X1.parts
  obtain ⟨Xf0, Xf1, Xf2, Xf3, Xf4⟩ := X1.free
  obtain ⟨Yc0, Yc1, Yc2, Yc3, Yc4⟩ := Y1.parts
  obtain ⟨Yf0, Yf1, Yf2, Yf3, Yf4⟩ := Y1.free
  go_wp2_with fail
  (with_reducible refine (M2.out _).mono ?_)
  rintro e w2 ⟨rfl, hb⟩
  have BW2 : Gr w w2 := gtr (by repeat (first | (with_reducible exact BW1) | (with_reducible refine gal ?_ _) | (with_reducible refine gdw ?_) | (with_reducible refine gdn ?_ _))) hb
  have X2 : Row5 w2 w.heap.size (.bool g) (.int .u64 x0) (.int .u64 x1) (.int .u64 x2) (.int .u64 x3) := Row5.keep hb.1 (by repeat (first | (with_reducible exact X1) | (with_reducible refine Row5.alloc ?_ _) | (with_reducible refine Row5.drew ?_)))
  have Y2 : Row5 w2 (w.heap.size + 1) (.bool h) (.int .u64 y0) (.int .u64 y1) (.int .u64 y2) (.int .u64 y3) := Row5.keep hb.1 (by repeat (first | (with_reducible exact Y1) | (with_reducible refine Row5.alloc ?_ _) | (with_reducible refine Row5.drew ?_)))
  clear X1 Y1
  clear BW1
  clear hb
  obtain ⟨Xc0, Xc1, Xc2, Xc3, Xc4⟩ := X2.parts
  obtain ⟨Xf0, Xf1, Xf2, Xf3, Xf4⟩ := X2.free
  obtain ⟨Yc0, Yc1, Yc2, Yc3, Yc4⟩ := Y2.parts
  obtain ⟨Yf0, Yf1, Yf2, Yf3, Yf4⟩ := Y2.free
  go_wp2
  go_ret
  exact ⟨rfl, BW2⟩

set_option maxRecDepth 100000 in
theorem gcmp_nn (x0 x1 x2 x3 y0 y1 y2 y3 : Int) (c : Int)
    (m1 : ∀ W, Calls Tryz.prog 26 #[.agg #[.bool true, .int .u64 x0, .int .u64 x1, .int .u64 x2, .int .u64 x3]] W fun e w' => e = .returned (.bool true) ∧ Gr W w')
    (m2 : ∀ W, Calls Tryz.prog 26 #[.agg #[.bool true, .int .u64 y0, .int .u64 y1, .int .u64 y2, .int .u64 y3]] W fun e w' => e = .returned (.bool true) ∧ Gr W w')
    (k1 : ∀ W, Calls Tryz.prog 72 #[.agg #[.int .u64 y0, .int .u64 y1, .int .u64 y2, .int .u64 y3], .agg #[.int .u64 x0, .int .u64 x1, .int .u64 x2, .int .u64 x3]] W fun e w' => e = .returned (.int .i64 c) ∧ Gr W w') (w : World) :
    Calls Tryz.prog 43 #[.agg #[.bool true, .int .u64 x0, .int .u64 x1, .int .u64 x2, .int .u64 x3], .agg #[.bool true, .int .u64 y0, .int .u64 y1, .int .u64 y2, .int .u64 y3]] w fun e w' => e = .returned (.int .i64 c) ∧ Gr w w' := by
  have M1 := Lib.hid m1; clear m1
  have M2 := Lib.hid m2; clear m2
  have K1 := Lib.hid k1; clear k1
  go_enter Tryz.func43, Tryz.ntmps43
  go_wp2_with fail
  (with_reducible refine (M1.out _).mono ?_)
  rintro e w1 ⟨rfl, hb⟩
  have BW1 : Gr w w1 := gtr (by repeat (first | (with_reducible exact Gr.refl _) | (with_reducible refine gal ?_ _) | (with_reducible refine gdw ?_) | (with_reducible refine gdn ?_ _))) hb
  have X1 : Row5 w1 w.heap.size (.bool true) (.int .u64 x0) (.int .u64 x1) (.int .u64 x2) (.int .u64 x3) := Row5.keep hb.1 (by repeat (first | (with_reducible exact Row5.new _ _ _ _ _ _) | ((with_reducible refine Row5.new' _ ?_ _ _ _ _ _); (simp; done)) | (with_reducible refine Row5.alloc ?_ _) | (with_reducible refine Row5.drew ?_)))
  have Y1 : Row5 w1 (w.heap.size + 1) (.bool true) (.int .u64 y0) (.int .u64 y1) (.int .u64 y2) (.int .u64 y3) := Row5.keep hb.1 (by repeat (first | (with_reducible exact Row5.new _ _ _ _ _ _) | ((with_reducible refine Row5.new' _ ?_ _ _ _ _ _); (simp; done)) | (with_reducible refine Row5.alloc ?_ _) | (with_reducible refine Row5.drew ?_)))
  clear hb
  obtain ⟨Xc0, Xc1, Xc2, Xc3, Xc4⟩ := X1.parts
  obtain ⟨Xf0, Xf1, Xf2, Xf3, Xf4⟩ := X1.free
  obtain ⟨Yc0, Yc1, Yc2, Yc3, Yc4⟩ := Y1.parts
  obtain ⟨Yf0, Yf1, Yf2, Yf3, Yf4⟩ := Y1.free
  go_wp2_with fail
  (with_reducible refine (M2.out _).mono ?_)
  rintro e w2 ⟨rfl, hb⟩
  have BW2 : Gr w w2 := gtr (by repeat (first | (with_reducible exact BW1) | (with_reducible refine gal ?_ _) | (with_reducible refine gdw ?_) | (with_reducible refine gdn ?_ _))) hb
  have X2 : Row5 w2 w.heap.size (.bool true) (.int .u64 x0) (.int .u64 x1) (.int .u64 x2) (.int .u64 x3) := Row5.keep hb.1 (by repeat (first | (with_reducible exact X1) | (with_reducible refine Row5.alloc ?_ _) | (with_reducible refine Row5.drew ?_)))
  have Y2 : Row5 w2 (w.heap.size + 1) (.bool true) (.int .u64 y0) (.int .u64 y1) (.int .u64 y2) (.int .u64 y3) := Row5.keep hb.1 (by repeat (first | (with_reducible exact Y1) | (with_reducible refine Row5.alloc ?_ _) | (with_reducible refine Row5.drew ?_)))
  clear X1 Y1
  clear BW1
  clear hb
  obtain ⟨Xc0, Xc1, Xc2, Xc3, Xc4⟩ := X2.parts
  obtain ⟨Xf0, Xf1, Xf2, Xf3, Xf4⟩ := X2.free
  obtain ⟨Yc0, Yc1, Yc2, Yc3, Yc4⟩ := Y2.parts
  obtain ⟨Yf0, Yf1, Yf2, Yf3, Yf4⟩ := Y2.free
  go_wp2_with fail
  (with_reducible refine (K1.out _).mono ?_)
  rintro e w3 ⟨rfl, hb⟩
  have BW3 : Gr w w3 := gtr (by repeat (first | (with_reducible exact BW2) | (with_reducible refine gal ?_ _) | (with_reducible refine gdw ?_) | (with_reducible refine gdn ?_ _))) hb
  have X3 : Row5 w3 w.heap.size (.bool true) (.int .u64 x0) (.int .u64 x1) (.int .u64 x2) (.int .u64 x3) := Row5.keep hb.1 (by repeat (first | (with_reducible exact X2) | (with_reducible refine Row5.alloc ?_ _) | (with_reducible refine Row5.drew ?_)))
  have Y3 : Row5 w3 (w.heap.size + 1) (.bool true) (.int .u64 y0) (.int .u64 y1) (.int .u64 y2) (.int .u64 y3) := Row5.keep hb.1 (by repeat (first | (with_reducible exact Y2) | (with_reducible refine Row5.alloc ?_ _) | (with_reducible refine Row5.drew ?_)))
  clear X2 Y2
  clear BW2
  clear hb
  obtain ⟨Xc0, Xc1, Xc2, Xc3, Xc4⟩ := X3.parts
  obtain ⟨Xf0, Xf1, Xf2, Xf3, Xf4⟩ := X3.free
  obtain ⟨Yc0, Yc1, Yc2, Yc3, Yc4⟩ := Y3.parts
  obtain ⟨Yf0, Yf1, Yf2, Yf3, Yf4⟩ := Y3.free
  go_wp2
  go_ret
  exact ⟨rfl, BW3⟩

set_option maxRecDepth 100000 in
theorem gcmp_np (x0 x1 x2 x3 y0 y1 y2 y3 : Int)
    (m1 : ∀ W, Calls Tryz.prog 26 #[.agg #[.bool true, .int .u64 x0, .int .u64 x1, .int .u64 x2, .int .u64 x3]] W fun e w' => e = .returned (.bool true) ∧ Gr W w')
    (m2 : ∀ W, Calls Tryz.prog 26 #[.agg #[.bool false, .int .u64 y0, .int .u64 y1, .int .u64 y2, .int .u64 y3]] W fun e w' => e = .returned (.bool true) ∧ Gr W w') (w : World) :
    Calls Tryz.prog 43 #[.agg #[.bool true, .int .u64 x0, .int .u64 x1, .int .u64 x2, .int .u64 x3], .agg #[.bool false, .int .u64 y0, .int .u64 y1, .int .u64 y2, .int .u64 y3]] w fun e w' => e = .returned (.int .i64 (-1)) ∧ Gr w w' := by
  have M1 := Lib.hid m1; clear m1
  have M2 := Lib.hid m2; clear m2
  go_enter Tryz.func43, Tryz.ntmps43
  go_wp2_with fail
  (with_reducible refine (M1.out _).mono ?_)
  rintro e w1 ⟨rfl, hb⟩
  have BW1 : Gr w w1 := gtr (by repeat (first | (with_reducible exact Gr.refl _) | (with_reducible refine gal ?_ _) | (with_reducible refine gdw ?_) | (with_reducible refine gdn ?_ _))) hb
  have X1 : Row5 w1 w.heap.size (.bool true) (.int .u64 x0) (.int .u64 x1) (.int .u64 x2) (.int .u64 x3) := Row5.keep hb.1 (by repeat (first | (with_reducible exact Row5.new _ _ _ _ _ _) | ((with_reducible refine Row5.new' _ ?_ _ _ _ _ _); (simp; done)) | (with_reducible refine Row5.alloc ?_ _) | (with_reducible refine Row5.drew ?_)))
  have Y1 : Row5 w1 (w.heap.size + 1) (.bool false) (.int .u64 y0) (.int .u64 y1) (.int .u64 y2) (.int .u64 y3) := Row5.keep hb.1 (by repeat (first | (with_reducible exact Row5.new _ _ _ _ _ _) | ((with_reducible refine Row5.new' _ ?_ _ _ _ _ _); (simp; done)) | (with_reducible refine Row5.alloc ?_ _) | (with_reducible refine Row5.drew ?_)))
  clear hb
  obtain ⟨Xc0, Xc1, Xc2, Xc3, Xc4⟩ := X1.parts
  obtain ⟨Xf0, Xf1, Xf2, Xf3, Xf4⟩ := X1.free
  obtain ⟨Yc0, Yc1, Yc2, Yc3, Yc4⟩ := Y1.parts
  obtain ⟨Yf0, Yf1, Yf2, Yf3, Yf4⟩ := Y1.free
  go_wp2_with fail
  (with_reducible refine (M2.out _).mono ?_)
  rintro e w2 ⟨rfl, hb⟩
  have BW2 : Gr w w2 := gtr (by repeat (first | (with_reducible exact BW1) | (with_reducible refine gal ?_ _) | (with_reducible refine gdw ?_) | (with_reducible refine gdn ?_ _))) hb
  have X2 : Row5 w2 w.heap.size (.bool true) (.int .u64 x0) (.int .u64 x1) (.int .u64 x2) (.int .u64 x3) := Row5.keep hb.1 (by repeat (first | (with_reducible exact X1) | (with_reducible refine Row5.alloc ?_ _) | (with_reducible refine Row5.drew ?_)))
  have Y2 : Row5 w2 (w.heap.size + 1) (.bool false) (.int .u64 y0) (.int .u64 y1) (.int .u64 y2) (.int .u64 y3) := Row5.keep hb.1 (by repeat (first | (with_reducible exact Y1) | (with_reducible refine Row5.alloc ?_ _) | (with_reducible refine Row5.drew ?_)))
  clear X1 Y1
  clear BW1
  clear hb
  obtain ⟨Xc0, Xc1, Xc2, Xc3, Xc4⟩ := X2.parts
  obtain ⟨Xf0, Xf1, Xf2, Xf3, Xf4⟩ := X2.free
  obtain ⟨Yc0, Yc1, Yc2, Yc3, Yc4⟩ := Y2.parts
  obtain ⟨Yf0, Yf1, Yf2, Yf3, Yf4⟩ := Y2.free
  go_wp2
  go_ret
  exact ⟨rfl, BW2⟩

set_option maxRecDepth 100000 in
theorem gcmp_pn (x0 x1 x2 x3 y0 y1 y2 y3 : Int)
    (m1 : ∀ W, Calls Tryz.prog 26 #[.agg #[.bool false, .int .u64 x0, .int .u64 x1, .int .u64 x2, .int .u64 x3]] W fun e w' => e = .returned (.bool true) ∧ Gr W w')
    (m2 : ∀ W, Calls Tryz.prog 26 #[.agg #[.bool true, .int .u64 y0, .int .u64 y1, .int .u64 y2, .int .u64 y3]] W fun e w' => e = .returned (.bool true) ∧ Gr W w') (w : World) :
    Calls Tryz.prog 43 #[.agg #[.bool false, .int .u64 x0, .int .u64 x1, .int .u64 x2, .int .u64 x3], .agg #[.bool true, .int .u64 y0, .int .u64 y1, .int .u64 y2, .int .u64 y3]] w fun e w' => e = .returned (.int .i64 1) ∧ Gr w w' := by
  have M1 := Lib.hid m1; clear m1
  have M2 := Lib.hid m2; clear m2
  go_enter Tryz.func43, Tryz.ntmps43
  go_wp2_with fail
  (with_reducible refine (M1.out _).mono ?_)
  rintro e w1 ⟨rfl, hb⟩
  have BW1 : Gr w w1 := gtr (by repeat (first | (with_reducible exact Gr.refl _) | (with_reducible refine gal ?_ _) | (with_reducible refine gdw ?_) | (with_reducible refine gdn ?_ _))) hb
  have X1 : Row5 w1 w.heap.size (.bool false) (.int .u64 x0) (.int .u64 x1) (.int .u64 x2) (.int .u64 x3) := Row5.keep hb.1 (by repeat (first | (with_reducible exact Row5.new _ _ _ _ _ _) | ((with_reducible refine Row5.new' _ ?_ _ _ _ _ _); (simp; done)) | (with_reducible refine Row5.alloc ?_ _) | (with_reducible refine Row5.drew ?_)))
  have Y1 : Row5 w1 (w.heap.size + 1) (.bool true) (.int .u64 y0) (.int .u64 y1) (.int .u64 y2) (.int .u64 y3) := Row5.keep hb.1 (by repeat (first | (with_reducible exact Row5.new _ _ _ _ _ _) | ((with_reducible refine Row5.new' _ ?_ _ _ _ _ _); (simp; done)) | (with_reducible refine Row5.alloc ?_ _) | (with_reducible refine Row5.drew ?_)))
  clear hb
  obtain ⟨Xc0, Xc1, Xc2, Xc3, Xc4⟩ := X1.parts
  obtain ⟨Xf0, Xf1, Xf2, Xf3, Xf4⟩ := X1.free
  obtain ⟨Yc0, Yc1, Yc2, Yc3, Yc4⟩ := Y1.parts
  obtain ⟨Yf0, Yf1, Yf2, Yf3, Yf4⟩ := Y1.free
  go_wp2_with fail
  (with_reducible refine (M2.out _).mono ?_)
  rintro e w2 ⟨rfl, hb⟩
  have BW2 : Gr w w2 := gtr (by repeat (first | (with_reducible exact BW1) | (with_reducible refine gal ?_ _) | (with_reducible refine gdw ?_) | (with_reducible refine gdn ?_ _))) hb
  have X2 : Row5 w2 w.heap.size (.bool false) (.int .u64 x0) (.int .u64 x1) (.int .u64 x2) (.int .u64 x3) := Row5.keep hb.1 (by repeat (first | (with_reducible exact X1) | (with_reducible refine Row5.alloc ?_ _) | (with_reducible refine Row5.drew ?_)))
  have Y2 : Row5 w2 (w.heap.size + 1) (.bool true) (.int .u64 y0) (.int .u64 y1) (.int .u64 y2) (.int .u64 y3) := Row5.keep hb.1 (by repeat (first | (with_reducible exact Y1) | (with_reducible refine Row5.alloc ?_ _) | (with_reducible refine Row5.drew ?_)))
  clear X1 Y1
  clear BW1
  clear hb
  obtain ⟨Xc0, Xc1, Xc2, Xc3, Xc4⟩ := X2.parts
  obtain ⟨Xf0, Xf1, Xf2, Xf3, Xf4⟩ := X2.free
  obtain ⟨Yc0, Yc1, Yc2, Yc3, Yc4⟩ := Y2.parts
  obtain ⟨Yf0, Yf1, Yf2, Yf3, Yf4⟩ := Y2.free
  go_wp2
  go_ret
  exact ⟨rfl, BW2⟩

set_option maxRecDepth 100000 in
theorem gcmp_pp (x0 x1 x2 x3 y0 y1 y2 y3 : Int) (c : Int)
    (m1 : ∀ W, Calls Tryz.prog 26 #[.agg #[.bool false, .int .u64 x0, .int .u64 x1, .int .u64 x2, .int .u64 x3]] W fun e w' => e = .returned (.bool true) ∧ Gr W w')
    (m2 : ∀ W, Calls Tryz.prog 26 #[.agg #[.bool false, .int .u64 y0, .int .u64 y1, .int .u64 y2, .int .u64 y3]] W fun e w' => e = .returned (.bool true) ∧ Gr W w')
    (k1 : ∀ W, Calls Tryz.prog 72 #[.agg #[.int .u64 x0, .int .u64 x1, .int .u64 x2, .int .u64 x3], .agg #[.int .u64 y0, .int .u64 y1, .int .u64 y2, .int .u64 y3]] W fun e w' => e = .returned (.int .i64 c) ∧ Gr W w') (w : World) :
    Calls Tryz.prog 43 #[.agg #[.bool false, .int .u64 x0, .int .u64 x1, .int .u64 x2, .int .u64 x3], .agg #[.bool false, .int .u64 y0, .int .u64 y1, .int .u64 y2, .int .u64 y3]] w fun e w' => e = .returned (.int .i64 c) ∧ Gr w w' := by
  have M1 := Lib.hid m1; clear m1
  have M2 := Lib.hid m2; clear m2
  have K1 := Lib.hid k1; clear k1
  go_enter Tryz.func43, Tryz.ntmps43
  go_wp2_with fail
  (with_reducible refine (M1.out _).mono ?_)
  rintro e w1 ⟨rfl, hb⟩
  have BW1 : Gr w w1 := gtr (by repeat (first | (with_reducible exact Gr.refl _) | (with_reducible refine gal ?_ _) | (with_reducible refine gdw ?_) | (with_reducible refine gdn ?_ _))) hb
  have X1 : Row5 w1 w.heap.size (.bool false) (.int .u64 x0) (.int .u64 x1) (.int .u64 x2) (.int .u64 x3) := Row5.keep hb.1 (by repeat (first | (with_reducible exact Row5.new _ _ _ _ _ _) | ((with_reducible refine Row5.new' _ ?_ _ _ _ _ _); (simp; done)) | (with_reducible refine Row5.alloc ?_ _) | (with_reducible refine Row5.drew ?_)))
  have Y1 : Row5 w1 (w.heap.size + 1) (.bool false) (.int .u64 y0) (.int .u64 y1) (.int .u64 y2) (.int .u64 y3) := Row5.keep hb.1 (by repeat (first | (with_reducible exact Row5.new _ _ _ _ _ _) | ((with_reducible refine Row5.new' _ ?_ _ _ _ _ _); (simp; done)) | (with_reducible refine Row5.alloc ?_ _) | (with_reducible refine Row5.drew ?_)))
  clear hb
  obtain ⟨Xc0, Xc1, Xc2, Xc3, Xc4⟩ := X1.parts
  obtain ⟨Xf0, Xf1, Xf2, Xf3, Xf4⟩ := X1.free
  obtain ⟨Yc0, Yc1, Yc2, Yc3, Yc4⟩ := Y1.parts
  obtain ⟨Yf0, Yf1, Yf2, Yf3, Yf4⟩ := Y1.free
  go_wp2_with fail
  (with_reducible refine (M2.out _).mono ?_)
  rintro e w2 ⟨rfl, hb⟩
  have BW2 : Gr w w2 := gtr (by repeat (first | (with_reducible exact BW1) | (with_reducible refine gal ?_ _) | (with_reducible refine gdw ?_) | (with_reducible refine gdn ?_ _))) hb
  have X2 : Row5 w2 w.heap.size (.bool false) (.int .u64 x0) (.int .u64 x1) (.int .u64 x2) (.int .u64 x3) := Row5.keep hb.1 (by repeat (first | (with_reducible exact X1) | (with_reducible refine Row5.alloc ?_ _) | (with_reducible refine Row5.drew ?_)))
  have Y2 : Row5 w2 (w.heap.size + 1) (.bool false) (.int .u64 y0) (.int .u64 y1) (.int .u64 y2) (.int .u64 y3) := Row5.keep hb.1 (by repeat (first | (with_reducible exact Y1) | (with_reducible refine Row5.alloc ?_ _) | (with_reducible refine Row5.drew ?_)))
  clear X1 Y1
  clear BW1
  clear hb
  obtain ⟨Xc0, Xc1, Xc2, Xc3, Xc4⟩ := X2.parts
  obtain ⟨Xf0, Xf1, Xf2, Xf3, Xf4⟩ := X2.free
  obtain ⟨Yc0, Yc1, Yc2, Yc3, Yc4⟩ := Y2.parts
  obtain ⟨Yf0, Yf1, Yf2, Yf3, Yf4⟩ := Y2.free
  go_wp2_with fail
  (with_reducible refine (K1.out _).mono ?_)
  rintro e w3 ⟨rfl, hb⟩
  have BW3 : Gr w w3 := gtr (by repeat (first | (with_reducible exact BW2) | (with_reducible refine gal ?_ _) | (with_reducible refine gdw ?_) | (with_reducible refine gdn ?_ _))) hb
  have X3 : Row5 w3 w.heap.size (.bool false) (.int .u64 x0) (.int .u64 x1) (.int .u64 x2) (.int .u64 x3) := Row5.keep hb.1 (by repeat (first | (with_reducible exact X2) | (with_reducible refine Row5.alloc ?_ _) | (with_reducible refine Row5.drew ?_)))
  have Y3 : Row5 w3 (w.heap.size + 1) (.bool false) (.int .u64 y0) (.int .u64 y1) (.int .u64 y2) (.int .u64 y3) := Row5.keep hb.1 (by repeat (first | (with_reducible exact Y2) | (with_reducible refine Row5.alloc ?_ _) | (with_reducible refine Row5.drew ?_)))
  clear X2 Y2
  clear BW2
  clear hb
  obtain ⟨Xc0, Xc1, Xc2, Xc3, Xc4⟩ := X3.parts
  obtain ⟨Xf0, Xf1, Xf2, Xf3, Xf4⟩ := X3.free
  obtain ⟨Yc0, Yc1, Yc2, Yc3, Yc4⟩ := Y3.parts
  obtain ⟨Yf0, Yf1, Yf2, Yf3, Yf4⟩ := Y3.free
  go_wp2
  go_ret
  exact ⟨rfl, BW3⟩

theorem gmay_yes (z : Int) (hz : z.natAbs < 2 ^ 256) (w : World) : Calls Tryz.prog 26 #[Iz z] w fun e w' => e = .returned (.bool true) ∧ Gr w w' := by
  refine (may_core _ _ _ _ _ w).mono ?_
  rintro e w' ⟨rfl, o, rfl⟩
  refine ⟨?_, gal (Gr.refl _) _⟩
  unfold eq5
  rw [zq _ hz]
  congr 2
  by_cases h : z.natAbs = 0
  · have : ¬ z < 0 := by omega
    simp [this]
  · simp; omega
theorem gcmp_z (y z : Int) (hy : y.natAbs < 2 ^ 256) (hz : z.natAbs < 2 ^ 256) (w : World) :
    Calls Tryz.prog 43 #[Iz y, Iz z] w fun e w' => e = .returned (.int .i64 (cmpv y z)) ∧ Gr w w' := by
  have my := fun W => gmay_yes y hy W
  have mz := fun W => gmay_yes z hz W
  rcases sgn y with ⟨n, rfl⟩ | ⟨n, hn, rfl⟩ <;> rcases sgn z with ⟨m, rfl⟩ | ⟨m, hm, rfl⟩
  · rw [Iz_nat n] at my ⊢; rw [Iz_nat m] at mz ⊢
    exact gcmp_pp _ _ _ _ _ _ _ _ _ my mz (fun W => gcmp_any n m (by omega) (by omega) W) w
  · rw [Iz_nat n] at my ⊢; rw [Iz_neg hm] at mz ⊢
    refine (gcmp_pn _ _ _ _ _ _ _ _ my mz w).mono ?_
    rintro e w' ⟨rfl, hb⟩
    exact ⟨by unfold cmpv; rw [if_neg (by omega), if_neg (by omega)], hb⟩
  · rw [Iz_neg hn] at my ⊢; rw [Iz_nat m] at mz ⊢
    refine (gcmp_np _ _ _ _ _ _ _ _ my mz w).mono ?_
    rintro e w' ⟨rfl, hb⟩
    exact ⟨by unfold cmpv; rw [if_pos (by omega)], hb⟩
  · rw [Iz_neg hn] at my ⊢; rw [Iz_neg hm] at mz ⊢
    refine (gcmp_nn _ _ _ _ _ _ _ _ _ my mz (fun W => gcmp_any m n (by omega) (by omega) W) w).mono ?_
    rintro e w' ⟨rfl, hb⟩
    refine ⟨?_, hb⟩
    congr 2
    unfold cmpv
    rcases Nat.lt_trichotomy n m with h | h | h
    · rw [if_neg (by omega), if_neg (by omega), if_neg (by omega), if_neg (by omega)]
    · subst h; simp
    · rw [if_pos (by omega), if_pos (by omega)]


end Go.Proofs.YtjlgiejggcbgbaaGreatDoor
