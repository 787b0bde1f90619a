/-
  nat.Trail: the contract, for all numbers of four words. The table math/bits.deBruijn64tab reads as its initialiser lays it.
-/
import Derived.Test.YtjlgiejggcbgbaaGreatDoorNatLen
import Derived.Test.YtjlgiejggcbgbaaGreatDoorNatFmt
import Derived.Shelf.Spec.TrailingZeros
import Derived.Test.YtjlgiejggcbgbaaGreatDoorIntBase
namespace Go.Proofs.YtjlgiejggcbgbaaGreatDoor
open Go.RowKit Go.Shelf
attribute [local go_sem ↓] eql_nat neq_nat

def Tryz.tzRen : Ren := ⟨fun | 29 => 98 | n => n, fun | 0 => 0 | 3 => 3 | 4 => 4 | 5 => 5 | 22 => 25 | 25 => 71 | 54 => 121 | n => n, fun | 1 => 0 | n => n⟩
theorem Tryz.lays29 : Lays7.n29 Tryz.prog Tryz.tzRen := { mixed := by kernel_rfl, f29 := by kernel_rfl, t0 := by kernel_rfl, a0 := fun _ => by kernel_rfl, z0 := fun _ => by kernel_rfl, v0 := fun _ => by kernel_rfl, i0 := by kernel_rfl, t3 := by kernel_rfl, a3 := fun _ => by kernel_rfl, z3 := fun _ => by kernel_rfl, v3 := fun _ => by kernel_rfl, i3 := by kernel_rfl, t4 := by kernel_rfl, a4 := fun _ => by kernel_rfl, z4 := fun _ => by kernel_rfl, v4 := fun _ => by kernel_rfl, i4 := by kernel_rfl, t5 := by kernel_rfl, a5 := fun _ => by kernel_rfl, z5 := fun _ => by kernel_rfl, v5 := fun _ => by kernel_rfl, i5 := by kernel_rfl, t22 := by kernel_rfl, a22 := fun _ => by kernel_rfl, z22 := fun _ => by kernel_rfl, v22 := fun _ => by kernel_rfl, i22 := by kernel_rfl, t25 := by kernel_rfl, a25 := fun _ => by kernel_rfl, z25 := fun _ => by kernel_rfl, v25 := fun _ => by kernel_rfl, i25 := by kernel_rfl, t54 := by kernel_rfl, a54 := fun _ => by kernel_rfl, z54 := fun _ => by kernel_rfl, g1 := by kernel_rfl }

/-- The table of bits reads as it is laid. -/
abbrev Tb (w : World) : Prop := Lib.TabIs Tryz.prog w "math/bits.deBruijn64tab" .u8 (Lib.deBruijn64tab.map Int.ofNat)
theorem tb_on {w w' : World} (h : Tb w) (hb : Below w.heap.size w w') : Tb w' := Lib.tabBelow_of_tabIs h w' hb
theorem tb_at {w : World} (h : Tb w) : TabAt (Tryz.tzRen.g 1) Lib.deBruijn64tab w := by
  intro j hj
  have := Lib.TabIs.cell (g := 0) h (by kernel_rfl) j (by simpa using hj)
  refine this.trans ?_
  congr 2
  rw [List.getD_eq_getElem?_getD, List.getD_eq_getElem?_getD, List.getElem?_map]
  cases Lib.deBruijn64tab[j]? <;> rfl
theorem tz_any (x : Nat) (hx : x < 18446744073709551616) (w : World) (hT : Tb w) :
    Calls Tryz.prog 98 #[.int .u64 x] w fun e w' => e = .returned (.int .i64 (Lib.ctz 64 x)) ∧ w' = w :=
  Any7.bits_TrailingZeros64 Tryz.lays29 x hx w (fun _ => tb_at hT)

/-- Both tables. -/
def Tabs (w : World) : Prop := Tab w ∧ Tb w
theorem tabs_on {w w' : World} (h : Tabs w) (hb : Below w.heap.size w w') : Tabs w' := ⟨tab_on h.1 hb, tb_on h.2 hb⟩

/-- How many noughts stand at the end (256 of 0). -/
def tz (x : Nat) : Nat := if x = 0 then 256 else Lib.ctzFrom 256 x
theorem tz_zero : tz 0 = 256 := rfl
theorem tz_spec {x : Nat} (hx : x ≠ 0) (h : x < 2 ^ 256) : (∃ m, x = 2 ^ tz x * (2 * m + 1)) ∧ tz x < 256 := by
  unfold tz
  rw [if_neg hx]
  obtain ⟨m, h1, h2⟩ := Lib.ctzFrom_spec 256 x (by omega) h
  exact ⟨⟨m, h1⟩, h2⟩
theorem odd_unique : ∀ (a b m n : Nat), 2 ^ a * (2 * m + 1) = 2 ^ b * (2 * n + 1) → a = b := by
  intro a
  induction a with
  | zero =>
    intro b m n h
    cases b with
    | zero => rfl
    | succ b => rw [Nat.pow_succ, Nat.mul_comm (2 ^ b) 2, Nat.mul_assoc] at h; omega
  | succ a ih =>
    intro b m n h
    cases b with
    | zero => rw [Nat.pow_succ, Nat.mul_comm (2 ^ a) 2, Nat.mul_assoc] at h; omega
    | succ b =>
      rw [Nat.pow_succ, Nat.pow_succ, Nat.mul_comm (2 ^ a) 2, Nat.mul_comm (2 ^ b) 2, Nat.mul_assoc, Nat.mul_assoc] at h
      rw [ih b m n (by omega)]
theorem tz_unique {x k m : Nat} (h : x < 2 ^ 256) (e : x = 2 ^ k * (2 * m + 1)) : tz x = k := by
  have hx : x ≠ 0 := by
    intro h0
    have : 0 < 2 ^ k * (2 * m + 1) := Nat.mul_pos (Nat.two_pow_pos k) (by omega)
    omega
  obtain ⟨⟨n, hn⟩, _⟩ := tz_spec hx h
  exact odd_unique _ _ n m (by rw [← hn, ← e])
theorem ctz_word {a : Nat} (h0 : a ≠ 0) (h : a < 18446744073709551616) : ∃ m, a = 2 ^ Lib.ctz 64 a * (2 * m + 1) ∧ Lib.ctz 64 a < 64 := by
  unfold Lib.ctz
  rw [if_neg h0]
  exact Lib.ctzFrom_spec 64 a (by omega) h
/-- Words above the lowest that is not 0 turn nothing. -/
theorem tz_limb {x a j hi : Nat} (h : x < 2 ^ 256) (h0 : a ≠ 0) (ha : a < 18446744073709551616) (e : x = 2 ^ (64 * j) * (a + 18446744073709551616 * hi)) : tz x = 64 * j + Lib.ctz 64 a := by
  obtain ⟨m, hm, hk⟩ := ctz_word h0 ha
  refine tz_unique (m := m + 2 ^ (63 - Lib.ctz 64 a) * hi) h ?_
  have e2 : (18446744073709551616 : Nat) = 2 ^ Lib.ctz 64 a * (2 * 2 ^ (63 - Lib.ctz 64 a)) := by
    rw [← Nat.mul_assoc, Nat.mul_comm _ 2, Nat.mul_assoc, ← Nat.pow_add, show Lib.ctz 64 a + (63 - Lib.ctz 64 a) = 63 from by omega]
  rw [e, Nat.pow_add, Nat.mul_assoc]
  congr 1
  have e3 : 2 * (m + 2 ^ (63 - Lib.ctz 64 a) * hi) + 1 = (2 * m + 1) + 2 * 2 ^ (63 - Lib.ctz 64 a) * hi := by
    rw [Nat.mul_add, ← Nat.mul_assoc]; omega
  rw [e3, Nat.mul_add, ← hm, ← Nat.mul_assoc, ← e2]

set_option maxRecDepth 100000 in
theorem trail_at0 (a0 a1 a2 a3 : Int) (t : Nat) (hne : (a0 != 0) = true) (ht : t ≤ 64)
    (hc : ∀ W, Tb W → Calls Tryz.prog 98 #[.int .u64 a0] W fun e w' => e = .returned (.int .i64 (t : Int)) ∧ w' = W) (w : World) (hT : Tb w) :
    Calls Tryz.prog 82 #[.agg #[.int .u64 a0, .int .u64 a1, .int .u64 a2, .int .u64 a3]] w fun e w' => e = .returned (.int .i64 (t : Int)) ∧ ∃ o : Obj, w' = w.alloc o := by
  have HT := Lib.hid hT; clear hT
  have HC := Lib.hid hc; clear hc
  have j0 : ∀ W, (Instr.index 27 (.agg #[.int .u64 a0, .int .u64 a1, .int .u64 a2, .int .u64 a3]) (.int .i64 0)).run Tryz.prog W = .ok (.int .u64 a0) W := fun _ => by kernel_rfl
  go_enter Tryz.func82, Tryz.ntmps82
  go_wp2
  refine wp_loop_rounds 5 ?_
  rw [rounds_succ]
  go_wp2_with fail
  refine (HC.out _ (tb_on HT.out (bal (Below.refl _ _) _))).mono ?_
  rintro e w' ⟨rfl, rfl⟩
  go_wp2
  go_ret
  exact ⟨rfl, _, rfl⟩

set_option maxRecDepth 100000 in
theorem trail_at1 (a1 a2 a3 : Int) (t : Nat) (hne : (a1 != 0) = true) (ht : t ≤ 64)
    (hc : ∀ W, Tb W → Calls Tryz.prog 98 #[.int .u64 a1] W fun e w' => e = .returned (.int .i64 (t : Int)) ∧ w' = W) (w : World) (hT : Tb w) :
    Calls Tryz.prog 82 #[.agg #[.int .u64 0, .int .u64 a1, .int .u64 a2, .int .u64 a3]] w fun e w' => e = .returned (.int .i64 (64 + (t : Int))) ∧ ∃ o : Obj, w' = w.alloc o := by
  have HT := Lib.hid hT; clear hT
  have HC := Lib.hid hc; clear hc
  have j0 : ∀ W, (Instr.index 27 (.agg #[.int .u64 0, .int .u64 a1, .int .u64 a2, .int .u64 a3]) (.int .i64 0)).run Tryz.prog W = .ok (.int .u64 0) W := fun _ => by kernel_rfl
  have j1 : ∀ W, (Instr.index 27 (.agg #[.int .u64 0, .int .u64 a1, .int .u64 a2, .int .u64 a3]) (.int .i64 1)).run Tryz.prog W = .ok (.int .u64 a1) W := fun _ => by kernel_rfl
  go_enter Tryz.func82, Tryz.ntmps82
  go_wp2
  refine wp_loop_rounds 5 ?_
  rw [rounds_succ]
  go_wp2
  rw [rounds_succ]
  go_wp2_with fail
  refine (HC.out _ (tb_on HT.out (bal (Below.refl _ _) _))).mono ?_
  rintro e w' ⟨rfl, rfl⟩
  go_wp2
  go_ret
  exact ⟨rfl, _, rfl⟩

set_option maxRecDepth 100000 in
theorem trail_at2 (a2 a3 : Int) (t : Nat) (hne : (a2 != 0) = true) (ht : t ≤ 64)
    (hc : ∀ W, Tb W → Calls Tryz.prog 98 #[.int .u64 a2] W fun e w' => e = .returned (.int .i64 (t : Int)) ∧ w' = W) (w : World) (hT : Tb w) :
    Calls Tryz.prog 82 #[.agg #[.int .u64 0, .int .u64 0, .int .u64 a2, .int .u64 a3]] w fun e w' => e = .returned (.int .i64 (128 + (t : Int))) ∧ ∃ o : Obj, w' = w.alloc o := by
  have HT := Lib.hid hT; clear hT
  have HC := Lib.hid hc; clear hc
  have j0 : ∀ W, (Instr.index 27 (.agg #[.int .u64 0, .int .u64 0, .int .u64 a2, .int .u64 a3]) (.int .i64 0)).run Tryz.prog W = .ok (.int .u64 0) W := fun _ => by kernel_rfl
  have j1 : ∀ W, (Instr.index 27 (.agg #[.int .u64 0, .int .u64 0, .int .u64 a2, .int .u64 a3]) (.int .i64 1)).run Tryz.prog W = .ok (.int .u64 0) W := fun _ => by kernel_rfl
  have j2 : ∀ W, (Instr.index 27 (.agg #[.int .u64 0, .int .u64 0, .int .u64 a2, .int .u64 a3]) (.int .i64 2)).run Tryz.prog W = .ok (.int .u64 a2) W := fun _ => by kernel_rfl
  go_enter Tryz.func82, Tryz.ntmps82
  go_wp2
  refine wp_loop_rounds 5 ?_
  rw [rounds_succ]
  go_wp2
  rw [rounds_succ]
  go_wp2
  rw [rounds_succ]
  go_wp2_with fail
  refine (HC.out _ (tb_on HT.out (bal (Below.refl _ _) _))).mono ?_
  rintro e w' ⟨rfl, rfl⟩
  go_wp2
  go_ret
  exact ⟨rfl, _, rfl⟩

set_option maxRecDepth 100000 in
theorem trail_at3 (a3 : Int) (t : Nat) (hne : (a3 != 0) = true) (ht : t ≤ 64)
    (hc : ∀ W, Tb W → Calls Tryz.prog 98 #[.int .u64 a3] W fun e w' => e = .returned (.int .i64 (t : Int)) ∧ w' = W) (w : World) (hT : Tb w) :
    Calls Tryz.prog 82 #[.agg #[.int .u64 0, .int .u64 0, .int .u64 0, .int .u64 a3]] w fun e w' => e = .returned (.int .i64 (192 + (t : Int))) ∧ ∃ o : Obj, w' = w.alloc o := by
  have HT := Lib.hid hT; clear hT
  have HC := Lib.hid hc; clear hc
  have j0 : ∀ W, (Instr.index 27 (.agg #[.int .u64 0, .int .u64 0, .int .u64 0, .int .u64 a3]) (.int .i64 0)).run Tryz.prog W = .ok (.int .u64 0) W := fun _ => by kernel_rfl
  have j1 : ∀ W, (Instr.index 27 (.agg #[.int .u64 0, .int .u64 0, .int .u64 0, .int .u64 a3]) (.int .i64 1)).run Tryz.prog W = .ok (.int .u64 0) W := fun _ => by kernel_rfl
  have j2 : ∀ W, (Instr.index 27 (.agg #[.int .u64 0, .int .u64 0, .int .u64 0, .int .u64 a3]) (.int .i64 2)).run Tryz.prog W = .ok (.int .u64 0) W := fun _ => by kernel_rfl
  have j3 : ∀ W, (Instr.index 27 (.agg #[.int .u64 0, .int .u64 0, .int .u64 0, .int .u64 a3]) (.int .i64 3)).run Tryz.prog W = .ok (.int .u64 a3) W := fun _ => by kernel_rfl
  go_enter Tryz.func82, Tryz.ntmps82
  go_wp2
  refine wp_loop_rounds 5 ?_
  rw [rounds_succ]
  go_wp2
  rw [rounds_succ]
  go_wp2
  rw [rounds_succ]
  go_wp2
  rw [rounds_succ]
  go_wp2_with fail
  refine (HC.out _ (tb_on HT.out (bal (Below.refl _ _) _))).mono ?_
  rintro e w' ⟨rfl, rfl⟩
  go_wp2
  go_ret
  exact ⟨rfl, _, rfl⟩

theorem trail_none (w : World) : Calls Tryz.prog 82 #[.agg #[.int .u64 0, .int .u64 0, .int .u64 0, .int .u64 0]] w fun e w' => e = .returned (.int .i64 256) ∧ ∃ o : Obj, w' = w.alloc o := by
  have j0 : ∀ W, (Instr.index 27 (.agg #[.int .u64 0, .int .u64 0, .int .u64 0, .int .u64 0]) (.int .i64 0)).run Tryz.prog W = .ok (.int .u64 0) W := fun _ => by kernel_rfl
  have j1 : ∀ W, (Instr.index 27 (.agg #[.int .u64 0, .int .u64 0, .int .u64 0, .int .u64 0]) (.int .i64 1)).run Tryz.prog W = .ok (.int .u64 0) W := fun _ => by kernel_rfl
  have j2 : ∀ W, (Instr.index 27 (.agg #[.int .u64 0, .int .u64 0, .int .u64 0, .int .u64 0]) (.int .i64 2)).run Tryz.prog W = .ok (.int .u64 0) W := fun _ => by kernel_rfl
  have j3 : ∀ W, (Instr.index 27 (.agg #[.int .u64 0, .int .u64 0, .int .u64 0, .int .u64 0]) (.int .i64 3)).run Tryz.prog W = .ok (.int .u64 0) W := fun _ => by kernel_rfl
  go_enter Tryz.func82, Tryz.ntmps82
  go_wp2
  refine wp_loop_rounds 5 ?_
  rw [rounds_succ]
  go_wp2
  rw [rounds_succ]
  go_wp2
  rw [rounds_succ]
  go_wp2
  rw [rounds_succ]
  go_wp2
  rw [rounds_succ]
  go_wp2
  go_ret
  exact ⟨rfl, _, rfl⟩
theorem ctz_le {a : Nat} (h : a < 18446744073709551616) : Lib.ctz 64 a ≤ 64 := by
  by_cases h0 : a = 0
  · subst h0; simp [Lib.ctz]
  · obtain ⟨m, _, hk⟩ := ctz_word h0 h; omega
theorem trail_one (x : Nat) (hx : x < 2 ^ 256) (w : World) (hT : Tb w) : Calls Tryz.prog 82 #[N4 x] w fun e w' => e = .returned (.int .i64 (tz x)) ∧ ∃ o : Obj, w' = w.alloc o := by
  have X := lb_sum x hx
  have x0 := lb_word 0 x; have x1 := lb_word 1 x; have x2 := lb_word 2 x; have x3 := lb_word 3 x
  unfold N4
  generalize lb 0 x = a0 at *; generalize lb 1 x = a1 at *; generalize lb 2 x = a2 at *; generalize lb 3 x = a3 at *
  unfold Word at *
  obtain ⟨a0, rfl⟩ := Int.eq_ofNat_of_zero_le x0.1
  obtain ⟨a1, rfl⟩ := Int.eq_ofNat_of_zero_le x1.1
  obtain ⟨a2, rfl⟩ := Int.eq_ofNat_of_zero_le x2.1
  obtain ⟨a3, rfl⟩ := Int.eq_ofNat_of_zero_le x3.1
  have b0 : a0 < 18446744073709551616 := by omega
  have b1 : a1 < 18446744073709551616 := by omega
  have b2 : a2 < 18446744073709551616 := by omega
  have b3 : a3 < 18446744073709551616 := by omega
  have X' : x = a0 + 18446744073709551616 * a1 + 340282366920938463463374607431768211456 * a2 + 6277101735386680763835789423207666416102355444464034512896 * a3 := by unfold val4 at X; omega
  clear X
  by_cases h0 : a0 = 0
  · subst h0
    by_cases h1 : a1 = 0
    · subst h1
      by_cases h2 : a2 = 0
      · subst h2
        by_cases h3 : a3 = 0
        · subst h3
          obtain rfl : x = 0 := by omega
          exact trail_none w
        · refine (trail_at3 _ (Lib.ctz 64 a3) (by simpa using h3) (ctz_le b3) (fun W hW => tz_any a3 b3 W hW) w hT).mono ?_
          rintro e w' ⟨rfl, hb⟩
          rw [tz_limb (x := x) (j := 3) (hi := 0) hx h3 b3 (by omega)]
          exact ⟨rfl, hb⟩
      · refine (trail_at2 _ _ (Lib.ctz 64 a2) (by simpa using h2) (ctz_le b2) (fun W hW => tz_any a2 b2 W hW) w hT).mono ?_
        rintro e w' ⟨rfl, hb⟩
        rw [tz_limb (x := x) (j := 2) (hi := a3) hx h2 b2 (by omega)]
        exact ⟨rfl, hb⟩
    · refine (trail_at1 _ _ _ (Lib.ctz 64 a1) (by simpa using h1) (ctz_le b1) (fun W hW => tz_any a1 b1 W hW) w hT).mono ?_
      rintro e w' ⟨rfl, hb⟩
      rw [tz_limb (x := x) (j := 1) (hi := a2 + 18446744073709551616 * a3) hx h1 b1 (by omega)]
      exact ⟨rfl, hb⟩
  · refine (trail_at0 _ _ _ _ (Lib.ctz 64 a0) (by simpa using h0) (ctz_le b0) (fun W hW => tz_any a0 b0 W hW) w hT).mono ?_
    rintro e w' ⟨rfl, hb⟩
    rw [tz_limb (x := x) (j := 0) (hi := a1 + 18446744073709551616 * (a2 + 18446744073709551616 * a3)) hx h0 b0 (by omega)]
    exact ⟨by congr 2; omega, hb⟩
end Go.Proofs.YtjlgiejggcbgbaaGreatDoor
