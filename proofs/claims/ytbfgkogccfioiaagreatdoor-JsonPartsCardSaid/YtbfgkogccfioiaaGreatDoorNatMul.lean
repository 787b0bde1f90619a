/-
  nat.Mul: the contract, for all numbers of four words and all words.
-/
import Derived.Test.YtbfgkogccfioiaaGreatDoorNatAdd
import Derived.Test.YtbfgkogccfioiaaGreatDoorShelf
namespace Go.Proofs.YtbfgkogccfioiaaGreatDoor
open Go.RowKit Go.Shelf

set_option maxHeartbeats 400000 in
theorem mul_core (a0 a1 a2 a3 m p0 p1 p2 p3 h0 h1 h2 h3 l0 l1 l2 l3 c0 c1 c2 c3 o1 o2 o3 o4 : Int) (w : World)
    (m0 : ∀ W, Calls Tryz.prog 145 #[.int .u64 a0, .int .u64 m] W fun e w' => e = .returned (.tuple #[.int .u64 h0, .int .u64 l0]) ∧ w' = W)
    (m1 : ∀ W, Calls Tryz.prog 145 #[.int .u64 a1, .int .u64 m] W fun e w' => e = .returned (.tuple #[.int .u64 h1, .int .u64 l1]) ∧ w' = W)
    (m2 : ∀ W, Calls Tryz.prog 145 #[.int .u64 a2, .int .u64 m] W fun e w' => e = .returned (.tuple #[.int .u64 h2, .int .u64 l2]) ∧ w' = W)
    (m3 : ∀ W, Calls Tryz.prog 145 #[.int .u64 a3, .int .u64 m] W fun e w' => e = .returned (.tuple #[.int .u64 h3, .int .u64 l3]) ∧ w' = W)
    (e0 : ∀ W, (callFunc 146 #[.int .u64 l0, .int .u64 0, .int .u64 0]).run Tryz.prog W = .ok (.value (.tuple #[.int .u64 p0, .int .u64 c0])) W)
    (e1 : ∀ W, (callFunc 146 #[.int .u64 l1, .int .u64 o1, .int .u64 0]).run Tryz.prog W = .ok (.value (.tuple #[.int .u64 p1, .int .u64 c1])) W)
    (e2 : ∀ W, (callFunc 146 #[.int .u64 l2, .int .u64 o2, .int .u64 0]).run Tryz.prog W = .ok (.value (.tuple #[.int .u64 p2, .int .u64 c2])) W)
    (e3 : ∀ W, (callFunc 146 #[.int .u64 l3, .int .u64 o3, .int .u64 0]).run Tryz.prog W = .ok (.value (.tuple #[.int .u64 p3, .int .u64 c3])) W)
    (g0 : IntKind.u64.wrap (h0 + c0) = o1)
    (g1 : IntKind.u64.wrap (h1 + c1) = o2)
    (g2 : IntKind.u64.wrap (h2 + c2) = o3)
    (g3 : IntKind.u64.wrap (h3 + c3) = o4) :
    Calls Tryz.prog 100 #[.agg #[.int .u64 a0, .int .u64 a1, .int .u64 a2, .int .u64 a3], .int .u64 m] w fun e w' =>
      e = (if o4 = 0 then .returned (.tuple #[.agg #[.int .u64 p0, .int .u64 p1, .int .u64 p2, .int .u64 p3], .bool true]) else .returned (.tuple #[.agg #[.int .u64 0, .int .u64 0, .int .u64 0, .int .u64 0], .bool false])) ∧ Below w.heap.size w w' := by
  have M0 := Lib.hid m0; clear m0
  have M1 := Lib.hid m1; clear m1
  have M2 := Lib.hid m2; clear m2
  have M3 := Lib.hid m3; clear m3
  go_enter Tryz.func100, Tryz.ntmps100
  go_wp2
  refine wp_loop_rounds 5 ?_
  rw [rounds_succ]
  go_wp2_with (go_at_call 145; refine (M0.out _).mono ?_; rintro e w' ⟨rfl, rfl⟩)
  rw [rounds_succ]
  go_wp2_with (go_at_call 145; refine (M1.out _).mono ?_; rintro e w' ⟨rfl, rfl⟩)
  rw [rounds_succ]
  go_wp2_with (go_at_call 145; refine (M2.out _).mono ?_; rintro e w' ⟨rfl, rfl⟩)
  rw [rounds_succ]
  go_wp2_with (go_at_call 145; refine (M3.out _).mono ?_; rintro e w' ⟨rfl, rfl⟩)
  clear e0 e1 e2 e3 g0 g1 g2 g3
  rw [rounds_succ]
  go_wp2_with fail
  by_cases hc : o4 = 0
  · subst hc
    refine (over_no _ _ _ _ _).mono ?_
    rintro e w1 ⟨rfl, hb⟩
    obtain ⟨hc, hf⟩ := bcell hb
    go_wp2
    refine bodyPost_ret (v := .tuple #[.agg #[.int .u64 p0, .int .u64 p1, .int .u64 p2, .int .u64 p3], .bool true]) (by simp [results, Tryz.results100, go_sem, hc]) rfl ⟨by simp, bsc4 (btr ?_ hb) (by omega) _ _ _ _⟩
    repeat (first | exact Below.refl _ _ | refine bal ?_ _ | refine Below.drew ?_)
  · refine (over_yes _ _ _ _ _ (by simpa using hc) _).mono ?_
    rintro e w1 ⟨rfl, hb⟩
    obtain ⟨hc, hf⟩ := bcell hb
    go_wp2
    refine bodyPost_ret (v := .tuple #[.agg #[.int .u64 0, .int .u64 0, .int .u64 0, .int .u64 0], .bool false]) (by simp [results, Tryz.results100, go_sem, hc]) rfl ⟨by simp [*], bsc4 (btr ?_ hb) (by omega) _ _ _ _⟩
    repeat (first | exact Below.refl _ _ | refine bal ?_ _ | refine Below.drew ?_)

/-- One step of a product by limbs. -/
theorem mul_step {a m o : Int} (ha : Word a) (hm : Word m) (ho : Word o) : ∃ h l p c o' : Int, Word h ∧ Word l ∧ Word p ∧ (0 ≤ c ∧ c ≤ 1) ∧ Word o' ∧ h = ((a.toNat * m.toNat / 18446744073709551616 : Nat) : Int) ∧ l = ((a.toNat * m.toNat % 18446744073709551616 : Nat) : Int) ∧
    p + 18446744073709551616 * c = l + o + 0 ∧ IntKind.u64.wrap (h + c) = o' ∧ p + 18446744073709551616 * o' = a * m + o := by
  unfold Word at *
  obtain ⟨a, rfl⟩ := Int.eq_ofNat_of_zero_le ha.1
  obtain ⟨m, rfl⟩ := Int.eq_ofNat_of_zero_le hm.1
  obtain ⟨o, rfl⟩ := Int.eq_ofNat_of_zero_le ho.1
  have hp : a * m ≤ 18446744073709551615 * 18446744073709551615 := Nat.mul_le_mul (by omega) (by omega)
  refine ⟨_, _, (((a * m % 18446744073709551616 + o) % 18446744073709551616 : Nat) : Int), (((a * m % 18446744073709551616 + o) / 18446744073709551616 : Nat) : Int), ((a * m / 18446744073709551616 + (a * m % 18446744073709551616 + o) / 18446744073709551616 : Nat) : Int), ?_, ?_, ?_, ?_, ?_, rfl, rfl, ?_, ?_, ?_⟩
  all_goals (try simp only [Int.toNat_natCast, IntKind.wrap_u64, ← Int.natCast_mul])
  all_goals generalize a * m = q at *
  all_goals omega

/-- nat.Mul's limbs. -/
theorem mul_limbs {x m : Nat} (hx : x < 2 ^ 256) (hm : m < 18446744073709551616) (w : World) :
    Calls Tryz.prog 100 #[N4 x, .int .u64 m] w fun e w' => (e = if x * m < 2 ^ 256 then .returned (.tuple #[N4 (x * m), .bool true]) else .returned (.tuple #[N4 0, .bool false])) ∧ Below w.heap.size w w' := by
  have X := lb_sum x hx
  have wm : Word (m : Int) := by unfold Word; omega
  have x0 := lb_word 0 x; have x1 := lb_word 1 x; have x2 := lb_word 2 x; have x3 := lb_word 3 x
  obtain ⟨h0, l0, p0, c0, o1, wh0, wl0, wp0, gc0, wo1, eh0, el0, es0, eo0, et0⟩ := mul_step x0 wm (o := 0) (by unfold Word; omega)
  obtain ⟨h1, l1, p1, c1, o2, wh1, wl1, wp1, gc1, wo2, eh1, el1, es1, eo1, et1⟩ := mul_step x1 wm wo1
  obtain ⟨h2, l2, p2, c2, o3, wh2, wl2, wp2, gc2, wo3, eh2, el2, es2, eo2, et2⟩ := mul_step x2 wm wo2
  obtain ⟨h3, l3, p3, c3, o4, wh3, wl3, wp3, gc3, wo4, eh3, el3, es3, eo3, et3⟩ := mul_step x3 wm wo3
  have tot : val4 p0 p1 p2 p3 + 2 ^ 256 * o4 = ((x * m : Nat) : Int) := by
    have e : val4 (lb 0 x) (lb 1 x) (lb 2 x) (lb 3 x) * m = x * m := by rw [X]
    rw [Int.natCast_mul, ← e]
    unfold val4
    rw [Int.add_mul, Int.add_mul, Int.add_mul, Int.mul_assoc, Int.mul_assoc, Int.mul_assoc]
    omega
  have hv := val4_lt wp0 wp1 wp2 wp3
  have mul_at : ∀ i, ∀ W, Calls Tryz.prog 145 #[.int .u64 (lb i x), .int .u64 m] W fun e w' => e = .returned (.tuple #[.int .u64 (((lb i x).toNat * m / 18446744073709551616 : Nat) : Int), .int .u64 (((lb i x).toNat * m % 18446744073709551616 : Nat) : Int)]) ∧ w' = W := fun i W => by
    have := lb_word i x
    obtain ⟨n, hn⟩ := Int.eq_ofNat_of_zero_le this.1
    rw [hn] at this ⊢
    exact Tryz.bits_Mul64 n m (by have := this.2; omega) hm W
  subst eh0 el0 eh1 el1 eh2 el2 eh3 el3
  refine (mul_core _ _ _ _ m p0 p1 p2 p3 _ _ _ _ _ _ _ _ c0 c1 c2 c3 o1 o2 o3 o4 w (mul_at 0) (mul_at 1) (mul_at 2) (mul_at 3) (fun W => add64 wl0 (by unfold Word; omega) (by omega) (by omega) wp0 es0 W) (fun W => add64 wl1 wo1 (by omega) (by omega) wp1 es1 W) (fun W => add64 wl2 wo2 (by omega) (by omega) wp2 es2 W) (fun W => add64 wl3 wo3 (by omega) (by omega) wp3 es3 W) eo0 eo1 eo2 eo3).mono ?_
  rintro e w' ⟨he, hb⟩
  refine ⟨?_, hb⟩
  by_cases ho : o4 = 0
  · rw [if_pos ho] at he
    have hz : val4 p0 p1 p2 p3 = ((x * m : Nat) : Int) := by omega
    obtain ⟨z0, z1, z2, z3⟩ := lb_of wp0 wp1 wp2 wp3 hz
    rw [if_pos (by omega), he]
    simp only [N4, z0, z1, z2, z3]
  · rw [if_neg ho] at he
    have : 1 ≤ o4 := by have := wo4.1; omega
    rw [if_neg (by omega), he]
    simp only [N4, lb_zero]
theorem mul_ok (x m : Nat) (hx : x < 2 ^ 256) (hm : m < 18446744073709551616) (h : x * m < 2 ^ 256) (w : World) :
    Calls Tryz.prog 100 #[N4 x, .int .u64 m] w fun e w' => e = .returned (.tuple #[N4 (x * m), .bool true]) ∧ Below w.heap.size w w' := by
  refine (mul_limbs hx hm w).mono ?_
  rintro e w' ⟨he, hb⟩
  rw [if_pos h] at he
  exact ⟨he, hb⟩
theorem mul_over (x m : Nat) (hx : x < 2 ^ 256) (hm : m < 18446744073709551616) (h : ¬ x * m < 2 ^ 256) (w : World) :
    Calls Tryz.prog 100 #[N4 x, .int .u64 m] w fun e w' => e = .returned (.tuple #[N4 0, .bool false]) ∧ Below w.heap.size w w' := by
  refine (mul_limbs hx hm w).mono ?_
  rintro e w' ⟨he, hb⟩
  rw [if_neg h] at he
  exact ⟨he, hb⟩

end Go.Proofs.YtbfgkogccfioiaaGreatDoor
