/-
  whole.Exact, ExactUp, ExactDown, RoughUp, RoughDown: the contracts, said of integers below 2^256 in size. The table math/bits.deBruijn64tab reads as its initialiser lays it.
-/
import Derived.Test.YtjlgiejggcbgbaaGreatDoorWholeG
import Derived.Test.YtjlgiejggcbgbaaGreatDoorNatShl
namespace Go.Proofs.YtjlgiejggcbgbaaGreatDoor
open Go.RowKit Go.Shelf

/-- Has a float of 64 bits that number? -/
def exq (x : Nat) : Bool := decide ((blen x : Int) - (tz x : Int) ≤ 53)
/-- The nearest number from z on, upward, that is exact. -/
def eup (z : Int) : Int :=
  if exq z.natAbs then z
  else if 0 ≤ z then (((z.natAbs / 2 ^ (blen z.natAbs - 53) + 1) * 2 ^ (blen z.natAbs - 53) : Nat) : Int)
  else -((z.natAbs / 2 ^ (blen z.natAbs - 53) * 2 ^ (blen z.natAbs - 53) : Nat) : Int)
/-- The nearest number from z on, upward, that is not exact. -/
def rup (z : Int) : Int := if exq z.natAbs then (if z.natAbs ≤ 9007199254740992 then 9007199254740993 else z + 1) else z

theorem tz_le {x : Nat} (h : x < 2 ^ 256) : tz x ≤ 256 := by
  by_cases h0 : x = 0
  · subst h0; decide
  · have := (tz_spec h0 h).2; omega
theorem may_z (z : Int) (hz : z.natAbs < 2 ^ 256) : ∀ W, Calls Tryz.prog 26 #[Iz z] W fun e w' => e = .returned (.bool true) ∧ Below W.heap.size W w' := fun W => may_yes z hz W
theorem exact_z (z : Int) (hz : z.natAbs < 2 ^ 256) (w : World) (hT : Tb w) :
    Calls Tryz.prog 64 #[Iz z] w fun e w' => e = .returned (.bool (exq z.natAbs)) ∧ Below w.heap.size w w' :=
  exact_yes _ _ _ _ _ (blen z.natAbs) (tz z.natAbs) (exq z.natAbs) rfl (by omega) (by have := blen_le hz; omega) (by omega) (by have := tz_le hz; omega)
    (may_z z hz) (fun W => len_any _ hz W) (fun W hW => (trail_one _ hz W hW).mono (fun e w' ⟨he, o, ho⟩ => ⟨he, by rw [ho]; exact bal (Below.refl _ _) _⟩)) w hT
theorem exact_bad (w : World) : Calls Tryz.prog 64 #[I5 true 0] w fun e w' => e = .returned (.bool false) ∧ Below w.heap.size w w' :=
  exact_no _ _ _ _ _ (fun W => may_no W) w
theorem blen_exq {x : Nat} (h : exq x = false) : 53 < blen x := by
  unfold exq at h
  have := of_decide_eq_false h
  omega
theorem Znum_Z5 {z : Int} (h : ¬ z.natAbs < 2 ^ 256) : Znum z = .tuple #[Z5, .bool false] := by unfold Znum; rw [if_neg h]
theorem Znum_of {z : Int} (h : z.natAbs < 2 ^ 256) : Znum z = .tuple #[Iz z, .bool true] := by unfold Znum; rw [if_pos h]

theorem exup_z (z : Int) (hz : z.natAbs < 2 ^ 256) (w : World) (hT : Tb w) :
    Calls Tryz.prog 39 #[Iz z] w fun e w' => e = .returned (Znum (eup z)) ∧ Below w.heap.size w w' := by
  have hm := may_z z hz
  have he : ∀ W, Tb W → Calls Tryz.prog 64 #[Iz z] W fun e w' => e = .returned (.bool (exq z.natAbs)) ∧ Below W.heap.size W w' := fun W hW => exact_z z hz W hW
  cases hq : exq z.natAbs with
  | true =>
    rw [hq] at he
    refine (exup_same _ _ _ _ _ hm he w hT).mono ?_
    rintro e w' ⟨rfl, hb⟩
    refine ⟨?_, hb⟩
    unfold eup
    rw [if_pos hq, Znum_of hz]
  | false =>
    rw [hq] at he
    have hl := blen_exq hq
    have hl2 := blen_le hz
    have hlen := fun W => len_any _ hz W
    have hcast : ((blen z.natAbs : Int) - 53) = ((blen z.natAbs - 53 : Nat) : Int) := by omega
    have hshr := fun W => shr_any z.natAbs hz ((blen z.natAbs : Int) - 53) (by omega) W
    have hnat : ((blen z.natAbs : Int) - 53).toNat = blen z.natAbs - 53 := by omega
    simp only [hnat] at hshr
    have hk : z.natAbs / 2 ^ (blen z.natAbs - 53) < 2 ^ 53 := by
      have hx0 : z.natAbs ≠ 0 := by intro h0; rw [h0] at hl; simp [blen] at hl
      have := (blen_spec hx0).2.2
      rw [Nat.div_lt_iff_lt_mul (Nat.two_pow_pos _), ← Nat.pow_add]
      rwa [show 53 + (blen z.natAbs - 53) = blen z.natAbs from by omega]
    rcases sgn z with ⟨n, rfl⟩ | ⟨n, hn, rfl⟩
    · rw [Int.natAbs_natCast] at *
      rw [Iz_nat] at hm he ⊢
      have hadd := fun W => add_ok (n / 2 ^ (blen n - 53)) 1 (by omega) (by decide) (by omega) W
      simp only [N4_one] at hadd
      have hE : eup (n : Int) = (((n / 2 ^ (blen n - 53) + 1) * 2 ^ (blen n - 53) : Nat) : Int) := by
        unfold eup
        rw [Int.natAbs_natCast, if_neg (by rw [hq]; simp), if_pos (by omega)]
      by_cases hf : (n / 2 ^ (blen n - 53) + 1) * 2 ^ (blen n - 53) < 2 ^ 256
      · have hshl := fun W => shl_ok (n / 2 ^ (blen n - 53) + 1) (blen n - 53) (by omega) hf W
        simp only [← hcast] at hshl
        refine (exup_cut_p _ _ _ _ _ (by omega) (by omega) _ _ _ _ _ _ _ _ _ _ _ _ _ _ _ hm he hlen hshr hadd hshl (fun W => signed_any false _ _ _ _ W) w hT).mono ?_
        rintro e w' ⟨rfl, hb⟩
        refine ⟨?_, hb⟩
        rw [hE, Znum_of (by omega), Iz_nat]
        rfl
      · have hshl := fun W => shl_no (n / 2 ^ (blen n - 53) + 1) (blen n - 53) (by omega) hf W
        simp only [← hcast] at hshl
        refine (exup_cut_p _ _ _ _ _ (by omega) (by omega) _ _ _ _ _ _ _ _ _ _ _ _ _ _ _ hm he hlen hshr hadd hshl (fun W => signed_any false _ _ _ _ W) w hT).mono ?_
        rintro e w' ⟨rfl, hb⟩
        refine ⟨?_, hb⟩
        rw [hE, Znum_Z5 (by omega)]
        rfl
    · rw [Int.natAbs_neg, Int.natAbs_natCast] at *
      rw [Iz_neg hn] at hm he ⊢
      have hle : n / 2 ^ (blen n - 53) * 2 ^ (blen n - 53) ≤ n := Nat.div_mul_le_self _ _
      have hE : eup (-(n : Int)) = -((n / 2 ^ (blen n - 53) * 2 ^ (blen n - 53) : Nat) : Int) := by
        unfold eup
        rw [Int.natAbs_neg, Int.natAbs_natCast, if_neg (by rw [hq]; simp), if_neg (by omega)]
      have hshl := fun W => shl_ok (n / 2 ^ (blen n - 53)) (blen n - 53) (by omega) (by omega) W
      simp only [← hcast] at hshl
      refine (exup_cut_n _ _ _ _ _ (by omega) (by omega) _ _ _ _ _ _ _ _ _ _ hm he hlen hshr hshl (fun W => signed_any true _ _ _ _ W) w hT).mono ?_
      rintro e w' ⟨rfl, hb⟩
      refine ⟨?_, hb⟩
      have hnz : n / 2 ^ (blen n - 53) * 2 ^ (blen n - 53) ≠ 0 := by
        have h1 := (blen_spec hn).2.1
        have : 2 ^ (blen n - 53) ≤ n := Nat.le_trans (Nat.pow_le_pow_right (by decide) (by omega)) h1
        have := Nat.div_pos this (Nat.two_pow_pos _)
        exact Nat.mul_ne_zero (by omega) (Nat.ne_of_gt (Nat.two_pow_pos _))
      rw [hE, Znum_of (by omega), Iz_neg hnz, zq _ (by omega), decide_eq_false hnz]
      rfl
theorem exup_bad (w : World) : Calls Tryz.prog 39 #[I5 true 0] w fun e w' => e = .returned (.tuple #[Z5, .bool false]) ∧ Below w.heap.size w w' :=
  exup_no _ _ _ _ _ (fun W => may_no W) w

theorem N4_small (v : Nat) (h : v < 18446744073709551616) : N4 v = .agg #[.int .u64 (v : Int), .int .u64 0, .int .u64 0, .int .u64 0] := by
  unfold N4
  obtain ⟨l0, l1, l2, l3⟩ := lb_small (v := (v : Int)) (by omega) (by omega)
  rw [Int.natAbs_natCast] at l0 l1 l2 l3
  rw [l0, l1, l2, l3]
theorem roup_z (z : Int) (hz : z.natAbs < 2 ^ 256) (w : World) (hT : Tb w) :
    Calls Tryz.prog 41 #[Iz z] w fun e w' => e = .returned (Znum (rup z)) ∧ Below w.heap.size w w' := by
  have hm := may_z z hz
  have he : ∀ W, Tb W → Calls Tryz.prog 64 #[Iz z] W fun e w' => e = .returned (.bool (exq z.natAbs)) ∧ Below W.heap.size W w' := fun W hW => exact_z z hz W hW
  cases hq : exq z.natAbs with
  | false =>
    rw [hq] at he
    refine (roup_same _ _ _ _ _ hm he w hT).mono ?_
    rintro e w' ⟨rfl, hb⟩
    refine ⟨?_, hb⟩
    unfold rup
    rw [if_neg (by rw [hq]; simp), Znum_of hz]
  | true =>
    rw [hq] at he
    have hc := fun W => cmp_any z.natAbs 9007199254740992 hz (by decide) W
    rw [N4_small 9007199254740992 (by decide)] at hc
    by_cases hs : z.natAbs ≤ 9007199254740992
    · refine (roup_small _ _ _ _ _ _ (by unfold cmpv; split; omega; split <;> omega) hm he hc w hT).mono ?_
      rintro e w' ⟨rfl, hb⟩
      refine ⟨?_, hb⟩
      unfold rup
      rw [if_pos hq, if_pos hs, Znum_of (by decide)]
      obtain ⟨l0, l1, l2, l3⟩ := lb_small (v := 9007199254740993) (by decide) (by decide)
      unfold Iz I5
      rw [l0, l1, l2, l3]
      rfl
    · have hnx := fun W => next_z z hz W
      have hE : rup z = z + 1 := by
        unfold rup
        rw [if_pos hq, if_neg hs]
      by_cases hf : (z + 1).natAbs < 2 ^ 256
      · simp only [Znum_of hf] at hnx
        refine (roup_next _ _ _ _ _ _ (by unfold cmpv; split; omega; split <;> omega) _ _ _ _ _ _ hm he hc hnx w hT).mono ?_
        rintro e w' ⟨rfl, hb⟩
        exact ⟨by rw [hE, Znum_of hf], hb⟩
      · simp only [Znum_Z5 hf] at hnx
        refine (roup_next _ _ _ _ _ _ (by unfold cmpv; split; omega; split <;> omega) _ _ _ _ _ _ hm he hc hnx w hT).mono ?_
        rintro e w' ⟨rfl, hb⟩
        exact ⟨by rw [hE, Znum_Z5 hf], hb⟩
theorem roup_bad (w : World) : Calls Tryz.prog 41 #[I5 true 0] w fun e w' => e = .returned (.tuple #[Z5, .bool false]) ∧ Below w.heap.size w w' :=
  roup_no _ _ _ _ _ (fun W => may_no W) w
end Go.Proofs.YtjlgiejggcbgbaaGreatDoor
