/-
  nat.Shl and nat.Shr: the contracts, for all numbers of four words, all places.
-/
import Derived.Test.YtjlgiejggcbgbaaGreatDoorNatShMath
namespace Go.Proofs.YtjlgiejggcbgbaaGreatDoor
open Go.RowKit Go.Shelf
attribute [local go_sem ↓] eql_nat neq_nat

theorem shl_neg (x : Nat) (k : Int) (hk : k < 0) (w : World) : Calls Tryz.prog 69 #[N4 x, .int .i64 k] w fun e w' => e = .returned (.tuple #[.agg #[.int .u64 0, .int .u64 0, .int .u64 0, .int .u64 0], .bool false]) ∧ Below w.heap.size w w' := by
  go_enter Tryz.func69, Tryz.ntmps69
  go_wp2
  exact bodyPost_ret (v := .tuple #[.agg #[.int .u64 0, .int .u64 0, .int .u64 0, .int .u64 0], .bool false]) (by simp [results, Tryz.results69, go_sem]) rfl ⟨rfl, bal (bal (Below.refl _ _) _) _⟩

set_option maxRecDepth 100000 in
theorem shl_zero (x : Nat) (k : Int) (hk : ¬ k < 0) (hq : eq4 (lb 0 x) (lb 1 x) (lb 2 x) (lb 3 x) 0 0 0 0 = true) (w : World) : Calls Tryz.prog 69 #[N4 x, .int .i64 k] w fun e w' => e = .returned (.tuple #[N4 x, .bool true]) ∧ Below w.heap.size w w' := by
  go_enter Tryz.func69, Tryz.ntmps69
  go_wp2
  go_region_held3 (fun w' => w'.cell? ⟨w.heap.size, 0, none⟩ = some (.int .u64 (lb 0 x)) ∧ w'.cell? ⟨w.heap.size, 1, none⟩ = some (.int .u64 (lb 1 x)) ∧ w'.cell? ⟨w.heap.size, 2, none⟩ = some (.int .u64 (lb 2 x)) ∧ w'.cell? ⟨w.heap.size, 3, none⟩ = some (.int .u64 (lb 3 x))) (simp [go_sem, World.cell?_alloc_past]) (first | (go_at_call 68; refine (of_one _ _).mono ?_; rintro e w1 ⟨rfl, o1, rfl⟩))
  go_wp2
  refine bodyPost_ret (v := .tuple #[N4 x, .bool true]) (by simp [results, Tryz.results69, go_sem]) rfl ⟨rfl, ?_⟩
  repeat (first | exact Below.refl _ _ | refine bal ?_ _ | refine Below.drew ?_ | refine bdn ?_ _ | refine bsc4 ?_ (by omega) _ _ _ _)

set_option maxRecDepth 100000 in
theorem shl_over (x : Nat) (hx : x < 2 ^ 256) (k : Int) (hk : ¬ k < 0) (hq : eq4 (lb 0 x) (lb 1 x) (lb 2 x) (lb 3 x) 0 0 0 0 = false) (hl : 256 - (blen x : Int) < k) (hl2 : (blen x : Int) ≤ 256) (w : World) : Calls Tryz.prog 69 #[N4 x, .int .i64 k] w fun e w' => e = .returned (.tuple #[.agg #[.int .u64 0, .int .u64 0, .int .u64 0, .int .u64 0], .bool false]) ∧ Below w.heap.size w w' := by
  go_enter Tryz.func69, Tryz.ntmps69
  go_wp2
  go_region_held3 (fun w' => w'.cell? ⟨w.heap.size, 0, none⟩ = some (.int .u64 (lb 0 x)) ∧ w'.cell? ⟨w.heap.size, 1, none⟩ = some (.int .u64 (lb 1 x)) ∧ w'.cell? ⟨w.heap.size, 2, none⟩ = some (.int .u64 (lb 2 x)) ∧ w'.cell? ⟨w.heap.size, 3, none⟩ = some (.int .u64 (lb 3 x))) (simp [go_sem, World.cell?_alloc_past]) (first | (go_at_call 68; refine (of_one _ _).mono ?_; rintro e w1 ⟨rfl, o1, rfl⟩))
  go_wp2_with fail
  refine (len_one x hx _).mono ?_
  rintro e w2 ⟨rfl, o2, rfl⟩
  go_wp2
  refine bodyPost_ret (v := .tuple #[.agg #[.int .u64 0, .int .u64 0, .int .u64 0, .int .u64 0], .bool false]) (by simp [results, Tryz.results69, go_sem]) rfl ⟨rfl, ?_⟩
  repeat (first | exact Below.refl _ _ | refine bal ?_ _ | refine Below.drew ?_ | refine bdn ?_ _ | refine bsc4 ?_ (by omega) _ _ _ _)

set_option maxHeartbeats 2000000 in
set_option maxRecDepth 100000 in
theorem shl_main (x : Nat) (hx : x < 2 ^ 256) (k r : Int) (hk : 0 ≤ k) (hk2 : k ≤ 256) (hr0 : 0 ≤ r) (hr1 : r < 64) (hm : k % 64 = r) (hq : eq4 (lb 0 x) (lb 1 x) (lb 2 x) (lb 3 x) 0 0 0 0 = false) (hl : ¬ 256 - (blen x : Int) < k) (hl2 : (blen x : Int) ≤ 256) (w : World) : Calls Tryz.prog 69 #[N4 x, .int .i64 k] w fun e w' => e = .returned (.tuple #[.agg #[.int .u64 (shlv x (-(k / 64)) r), .int .u64 (shlv x (1 - k / 64) r), .int .u64 (shlv x (2 - k / 64) r), .int .u64 (shlv x (3 - k / 64) r)], .bool true]) ∧ Below w.heap.size w w' := by
  go_enter Tryz.func69, Tryz.ntmps69
  go_wp2
  go_region_held3 (fun w' => w'.cell? ⟨w.heap.size, 0, none⟩ = some (.int .u64 (lb 0 x)) ∧ w'.cell? ⟨w.heap.size, 1, none⟩ = some (.int .u64 (lb 1 x)) ∧ w'.cell? ⟨w.heap.size, 2, none⟩ = some (.int .u64 (lb 2 x)) ∧ w'.cell? ⟨w.heap.size, 3, none⟩ = some (.int .u64 (lb 3 x))) (simp [go_sem, World.cell?_alloc_past]) (first | (go_at_call 68; refine (of_one _ _).mono ?_; rintro e w1 ⟨rfl, o1, rfl⟩))
  go_wp2_with fail
  refine (len_one x hx _).mono ?_
  rintro e w2 ⟨rfl, o2, rfl⟩
  go_wp2
  refine wp_loop_rounds 5 ?_
  rw [rounds_succ]
  go_wp2
  go_region_held3 (fun w' => w'.cell? ⟨w.heap.size, 0, none⟩ = some (.int .u64 (lb 0 x)) ∧ w'.cell? ⟨w.heap.size, 1, none⟩ = some (.int .u64 (lb 1 x)) ∧ w'.cell? ⟨w.heap.size, 2, none⟩ = some (.int .u64 (lb 2 x)) ∧ w'.cell? ⟨w.heap.size, 3, none⟩ = some (.int .u64 (lb 3 x))) (simp [go_sem, World.cell?_alloc_past]) (first | (go_at_call 84; refine (limb_one x hx _ _).mono ?_; rintro e w1 ⟨rfl, o3, rfl⟩))
  go_wp2
  rw [rounds_succ]
  go_wp2
  go_region_held3 (fun w' => w'.cell? ⟨w.heap.size, 0, none⟩ = some (.int .u64 (lb 0 x)) ∧ w'.cell? ⟨w.heap.size, 1, none⟩ = some (.int .u64 (lb 1 x)) ∧ w'.cell? ⟨w.heap.size, 2, none⟩ = some (.int .u64 (lb 2 x)) ∧ w'.cell? ⟨w.heap.size, 3, none⟩ = some (.int .u64 (lb 3 x))) (simp [go_sem, World.cell?_alloc_past]) (first | (go_at_call 84; refine (limb_one x hx _ _).mono ?_; rintro e w1 ⟨rfl, o3, rfl⟩))
  go_wp2
  rw [rounds_succ]
  go_wp2
  go_region_held3 (fun w' => w'.cell? ⟨w.heap.size, 0, none⟩ = some (.int .u64 (lb 0 x)) ∧ w'.cell? ⟨w.heap.size, 1, none⟩ = some (.int .u64 (lb 1 x)) ∧ w'.cell? ⟨w.heap.size, 2, none⟩ = some (.int .u64 (lb 2 x)) ∧ w'.cell? ⟨w.heap.size, 3, none⟩ = some (.int .u64 (lb 3 x))) (simp [go_sem, World.cell?_alloc_past]) (first | (go_at_call 84; refine (limb_one x hx _ _).mono ?_; rintro e w1 ⟨rfl, o3, rfl⟩))
  go_wp2
  rw [rounds_succ]
  go_wp2
  go_region_held3 (fun w' => w'.cell? ⟨w.heap.size, 0, none⟩ = some (.int .u64 (lb 0 x)) ∧ w'.cell? ⟨w.heap.size, 1, none⟩ = some (.int .u64 (lb 1 x)) ∧ w'.cell? ⟨w.heap.size, 2, none⟩ = some (.int .u64 (lb 2 x)) ∧ w'.cell? ⟨w.heap.size, 3, none⟩ = some (.int .u64 (lb 3 x))) (simp [go_sem, World.cell?_alloc_past]) (first | (go_at_call 84; refine (limb_one x hx _ _).mono ?_; rintro e w1 ⟨rfl, o3, rfl⟩))
  go_wp2
  rw [rounds_succ]
  go_wp2
  refine bodyPost_ret (v := .tuple #[.agg #[.int .u64 (shlv x (-(k / 64)) r), .int .u64 (shlv x (1 - k / 64) r), .int .u64 (shlv x (2 - k / 64) r), .int .u64 (shlv x (3 - k / 64) r)], .bool true]) (by simp [results, Tryz.results69, go_sem, shlv]) rfl ⟨rfl, ?_⟩
  repeat (first | exact Below.refl _ _ | refine bal ?_ _ | refine Below.drew ?_ | refine bdn ?_ _ | refine bsc4 ?_ (by omega) _ _ _ _)
theorem shl_zero_number (x : Nat) (hx : x < 2 ^ 256) : eq4 (lb 0 x) (lb 1 x) (lb 2 x) (lb 3 x) 0 0 0 0 = decide (x = 0) := eq4_of x 0 hx (by decide)
theorem mul_pow_lt {x k : Nat} (hx : x ≠ 0) : x * 2 ^ k < 2 ^ 256 ↔ blen x + k ≤ 256 := by
  obtain ⟨h1, h2, h3⟩ := blen_spec hx
  constructor
  · intro h
    have : 2 ^ (blen x - 1) * 2 ^ k < 2 ^ 256 := Nat.lt_of_le_of_lt (Nat.mul_le_mul_right _ h2) h
    rw [← Nat.pow_add] at this
    have := (Nat.pow_lt_pow_iff_right (a := 2) (by omega)).1 this
    omega
  · intro h
    have : x * 2 ^ k < 2 ^ blen x * 2 ^ k := Nat.mul_lt_mul_of_pos_right h3 (Nat.two_pow_pos _)
    rw [← Nat.pow_add] at this
    exact Nat.lt_of_lt_of_le this (Nat.pow_le_pow_right (by omega) h)
/-- nat.Shl, where the number fits. -/
theorem shl_ok (x k : Nat) (hx : x < 2 ^ 256) (h : x * 2 ^ k < 2 ^ 256) (w : World) : Calls Tryz.prog 69 #[N4 x, .int .i64 k] w fun e w' => e = .returned (.tuple #[N4 (x * 2 ^ k), .bool true]) ∧ Below w.heap.size w w' := by
  by_cases h0 : x = 0
  · subst h0
    rw [Nat.zero_mul]
    exact shl_zero 0 k (by omega) (by rw [shl_zero_number 0 hx]; rfl) w
  · have hb := (mul_pow_lt h0).1 h
    have h1 := (blen_spec h0).1
    refine (shl_main x hx k ((k % 64 : Nat) : Int) (by omega) (by omega) (by omega) (by omega) (by omega) (by rw [shl_zero_number x hx]; simp [h0]) (by omega) (by omega) w).mono ?_
    rintro e w' ⟨rfl, hbw⟩
    refine ⟨?_, hbw⟩
    have hk : 64 * (k / 64) + k % 64 = k := Nat.div_add_mod k 64
    have sh : ∀ i : Nat, shlv x ((i : Int) - (k : Int) / 64) ((k % 64 : Nat) : Int) = lb i (x * 2 ^ k) := fun i => by
      have := shlv_lb x (k / 64) (k % 64) i (Nat.mod_lt _ (by decide))
      rw [hk] at this
      rw [← this]; rfl
    have s0 := sh 0; have s1 := sh 1; have s2 := sh 2; have s3 := sh 3
    rw [show ((0 : Nat) : Int) - (k : Int) / 64 = -((k : Int) / 64) from by omega] at s0
    rw [s0, show (1 : Int) - (k : Int) / 64 = ((1 : Nat) : Int) - (k : Int) / 64 from rfl, s1, show (2 : Int) - (k : Int) / 64 = ((2 : Nat) : Int) - (k : Int) / 64 from rfl, s2, show (3 : Int) - (k : Int) / 64 = ((3 : Nat) : Int) - (k : Int) / 64 from rfl, s3]
/-- nat.Shl, where a bit would go over. -/
theorem shl_no (x k : Nat) (hx : x < 2 ^ 256) (h : ¬ x * 2 ^ k < 2 ^ 256) (w : World) : Calls Tryz.prog 69 #[N4 x, .int .i64 k] w fun e w' => e = .returned (.tuple #[.agg #[.int .u64 0, .int .u64 0, .int .u64 0, .int .u64 0], .bool false]) ∧ Below w.heap.size w w' := by
  have h0 : x ≠ 0 := fun e => h (by rw [e, Nat.zero_mul]; exact Nat.two_pow_pos _)
  have hb : ¬ blen x + k ≤ 256 := fun e => h ((mul_pow_lt h0).2 e)
  have := blen_le hx
  exact shl_over x hx k (by omega) (by rw [shl_zero_number x hx]; simp [h0]) (by omega) (by omega) w

end Go.Proofs.YtjlgiejggcbgbaaGreatDoor
