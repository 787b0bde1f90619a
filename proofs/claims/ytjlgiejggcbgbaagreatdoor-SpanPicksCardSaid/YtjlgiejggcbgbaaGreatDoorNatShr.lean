/-
  nat.Shr: the contract, for all numbers of four words, all places.
-/
import Derived.Test.YtjlgiejggcbgbaaGreatDoorNatShMath
namespace Go.Proofs.YtjlgiejggcbgbaaGreatDoor
open Go.RowKit Go.Shelf

set_option maxHeartbeats 2000000 in
set_option maxRecDepth 100000 in
theorem shr_main (x : Nat) (hx : x < 2 ^ 256) (k k0 r : Int) (hk : 0 ≤ k) (hk2 : k ≤ 9223372036854775807) (hmax : max k0 0 = k) (hr0 : 0 ≤ r) (hr1 : r < 64) (hm : k % 64 = r) (w : World) : Calls Tryz.prog 66 #[N4 x, .int .i64 k0] w fun e w' => e = .returned (.agg #[.int .u64 (shrv x (k / 64) r), .int .u64 (shrv x (1 + k / 64) r), .int .u64 (shrv x (2 + k / 64) r), .int .u64 (shrv x (3 + k / 64) r)]) ∧ Below w.heap.size w w' := by
  go_enter Tryz.func66, Tryz.ntmps66
  go_wp2
  refine wp_loop_rounds 5 ?_
  rw [rounds_succ]
  go_wp2
  go_region_held3 (fun w' => w'.cell? ⟨w.heap.size, 0, none⟩ = some (.int .u64 (lb 0 x)) ∧ w'.cell? ⟨w.heap.size, 1, none⟩ = some (.int .u64 (lb 1 x)) ∧ w'.cell? ⟨w.heap.size, 2, none⟩ = some (.int .u64 (lb 2 x)) ∧ w'.cell? ⟨w.heap.size, 3, none⟩ = some (.int .u64 (lb 3 x))) (simp [go_sem, World.cell?_alloc_past]) (first | (go_at_call 84; refine (limb_one x hx _ _).mono ?_; rintro e w1 ⟨rfl, o3, rfl⟩))
  go_wp2
  rw [rounds_succ]
  go_wp2
  go_region_held3 (fun w' => w'.cell? ⟨w.heap.size, 0, none⟩ = some (.int .u64 (lb 0 x)) ∧ w'.cell? ⟨w.heap.size, 1, none⟩ = some (.int .u64 (lb 1 x)) ∧ w'.cell? ⟨w.heap.size, 2, none⟩ = some (.int .u64 (lb 2 x)) ∧ w'.cell? ⟨w.heap.size, 3, none⟩ = some (.int .u64 (lb 3 x))) (simp [go_sem, World.cell?_alloc_past]) (first | (go_at_call 84; refine (limb_one x hx _ _).mono ?_; rintro e w1 ⟨rfl, o3, rfl⟩))
  go_wp2
  rw [rounds_succ]
  go_wp2
  go_region_held3 (fun w' => w'.cell? ⟨w.heap.size, 0, none⟩ = some (.int .u64 (lb 0 x)) ∧ w'.cell? ⟨w.heap.size, 1, none⟩ = some (.int .u64 (lb 1 x)) ∧ w'.cell? ⟨w.heap.size, 2, none⟩ = some (.int .u64 (lb 2 x)) ∧ w'.cell? ⟨w.heap.size, 3, none⟩ = some (.int .u64 (lb 3 x))) (simp [go_sem, World.cell?_alloc_past]) (first | (go_at_call 84; refine (limb_one x hx _ _).mono ?_; rintro e w1 ⟨rfl, o3, rfl⟩))
  go_wp2
  rw [rounds_succ]
  go_wp2
  go_region_held3 (fun w' => w'.cell? ⟨w.heap.size, 0, none⟩ = some (.int .u64 (lb 0 x)) ∧ w'.cell? ⟨w.heap.size, 1, none⟩ = some (.int .u64 (lb 1 x)) ∧ w'.cell? ⟨w.heap.size, 2, none⟩ = some (.int .u64 (lb 2 x)) ∧ w'.cell? ⟨w.heap.size, 3, none⟩ = some (.int .u64 (lb 3 x))) (simp [go_sem, World.cell?_alloc_past]) (first | (go_at_call 84; refine (limb_one x hx _ _).mono ?_; rintro e w1 ⟨rfl, o3, rfl⟩))
  go_wp2
  rw [rounds_succ]
  go_wp2
  refine bodyPost_ret (v := .agg #[.int .u64 (shrv x (k / 64) r), .int .u64 (shrv x (1 + k / 64) r), .int .u64 (shrv x (2 + k / 64) r), .int .u64 (shrv x (3 + k / 64) r)]) (by simp [results, Tryz.results66, go_sem, shrv]) rfl ⟨rfl, ?_⟩
  repeat (first | exact Below.refl _ _ | refine bal ?_ _ | refine Below.drew ?_ | refine bdn ?_ _ | refine bsc4 ?_ (by omega) _ _ _ _)
/-- nat.Shr (a place below 0 counts as 0). -/
theorem shr_any (x : Nat) (hx : x < 2 ^ 256) (k : Int) (hk : k ≤ 9223372036854775807) (w : World) : Calls Tryz.prog 66 #[N4 x, .int .i64 k] w fun e w' => e = .returned (N4 (x / 2 ^ k.toNat)) ∧ Below w.heap.size w w' := by
  refine (shr_main x hx (k.toNat : Int) k ((k.toNat % 64 : Nat) : Int) (by omega) (by omega) (by omega) (by omega) (by omega) (by omega) w).mono ?_
  rintro e w' ⟨rfl, hbw⟩
  refine ⟨?_, hbw⟩
  generalize k.toNat = k
  have hk : 64 * (k / 64) + k % 64 = k := Nat.div_add_mod k 64
  have sh : ∀ i : Nat, shrv x ((i : Int) + (k : Int) / 64) ((k % 64 : Nat) : Int) = lb i (x / 2 ^ k) := fun i => by
    have := shrv_lb x (k / 64) (k % 64) i (Nat.mod_lt _ (by decide))
    rw [hk] at this
    rw [← this]; rfl
  have s0 := sh 0; have s1 := sh 1; have s2 := sh 2; have s3 := sh 3
  rw [show ((0 : Nat) : Int) + (k : Int) / 64 = ((k : Int) / 64) from by omega] at s0
  rw [s0, show (1 : Int) + (k : Int) / 64 = ((1 : Nat) : Int) + (k : Int) / 64 from rfl, s1, show (2 : Int) + (k : Int) / 64 = ((2 : Nat) : Int) + (k : Int) / 64 from rfl, s2, show (3 : Int) + (k : Int) / 64 = ((3 : Nat) : Int) + (k : Int) / 64 from rfl, s3]

end Go.Proofs.YtjlgiejggcbgbaaGreatDoor
