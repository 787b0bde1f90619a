/-
  The reference's Behind: the contract, for every word of 64 bits.
-/
import Derived.Test.YtgklokjilfeklaaDoorGC
import Derived.Test.YtgklokjilfeklaaDoorGF
import Derived.BigRegion
import Derived.RegionTactic
namespace Go.Proofs.YtgklokjilfeklaaDoor
open Go.RowKit Go.Shelf
attribute [local go_sem ↓] eql_nat neq_nat eql_int5 neq_int5

set_option maxHeartbeats 1000000 in
set_option maxRecDepth 100000 in
theorem rbehind_inf (b : Nat) (hb : b < 18446744073709551616) (h : ¬ rg b < INF) (w : World) :
    Calls Tryd.prog 66 #[.int .u64 b] w fun e w' => e = .returned (.int .i64 0) ∧ Below w.heap.size w w' := by
  have HP := Lib.hid (fun W => rparts_inf b hb h W); clear hb h
  go_enter Tryd.func66, Tryd.ntmps66
  go_wp2_with fail
  (with_reducible refine (HP.out _).mono ?_)
  rintro e w1 ⟨rfl, hw⟩
  rw [hw]; clear hw w1
  go_wp2
  go_ret
  exact ⟨rfl, Below.refl _ _⟩
theorem dg_len (b : Nat) : (digs (dg b)).length ≤ 1000 := Nat.le_trans (digs_len.2 (show dg b < 2 ^ (32 * 2) from dg_lt b)) (by decide)
set_option maxHeartbeats 1000000 in
set_option maxRecDepth 100000 in
theorem rbehind_zero (b : Nat) (hb : b < 18446744073709551616) (h : rg b < INF) (h0 : dg b = 0) (w : World) :
    Calls Tryd.prog 66 #[.int .u64 b] w fun e w' => e = .returned (.int .i64 0) ∧ Below w.heap.size w w' := by
  have HP := Lib.hid (fun W => rparts_fin b hb h W); clear hb h
  rw [h0] at HP
  generalize ex b = E at HP
  generalize (sg b == 1) = g at HP
  go_enter Tryd.func66, Tryd.ntmps66
  go_wp2_with fail
  (with_reducible refine (HP.out _).mono ?_)
  rintro e w1 ⟨s', rfl, hr, hb⟩
  have hl := rlen hr (by rw [digs_zero]; exact Nat.zero_le _)
  rw [show blen 0 = 0 from rfl] at hl
  have HL := Lib.hid hl; have HB := Lib.hid hb; clear hl hr hb
  go_wp2_with fail
  (with_reducible refine HL.out.mono ?_)
  rintro e w2 ⟨rfl, hw⟩
  rw [hw]; clear hw w2
  go_wp2
  go_ret
  exact ⟨rfl, HB.out⟩
set_option maxHeartbeats 1000000 in
set_option maxRecDepth 100000 in
theorem rbehind_core (b D t m L : Nat) (E : Int) (g : Bool) (hD : D = 2 ^ t * (2 * m + 1)) (hlD : (digs D).length ≤ 1000) (ht : t < 64) (hE0 : -1074 ≤ E) (hE1 : E ≤ 1000) (hL : L = blen D) (hL0 : ((L : Int) == 0) = false) (w : World)
    (hp : ∀ W, Calls Tryd.prog 65 #[.int .u64 b] W fun e w' => ∃ s', e = .returned (.tuple #[.bool g, s', .int .i64 E, .bool true]) ∧ DR w' s' D ∧ Below W.heap.size W w') :
    Calls Tryd.prog 66 #[.int .u64 b] w fun e w' => e = .returned (.int .i64 (max 0 (-E - (t : Int)))) ∧ Below w.heap.size w w' := by
  have HP := Lib.hid hp; have HD := Lib.hid hD; have HLD := Lib.hid hlD; have HLL := Lib.hid hL; clear hp hD hlD hL
  go_enter Tryd.func66, Tryd.ntmps66
  go_wp2_with fail
  (with_reducible refine (HP.out _).mono ?_)
  rintro e w1 ⟨s', rfl, hr, hb⟩
  have hl := rlen hr HLD.out
  rw [← HLL.out] at hl
  have htr := rtrail hr HLD.out HD.out (by omega)
  have HL := Lib.hid hl; have HT := Lib.hid htr; have HB := Lib.hid hb; clear hl htr hr hb
  go_wp2_with fail
  (with_reducible refine HL.out.mono ?_)
  rintro e w2 ⟨rfl, hw⟩
  rw [hw]; clear hw w2
  go_wp2_with fail
  (with_reducible refine HT.out.mono ?_)
  rintro e w2 ⟨rfl, hw⟩
  rw [hw]; clear hw w2
  go_wp2
  go_ret
  exact ⟨rfl, HB.out⟩
theorem ex_bounds (b : Nat) : -1074 ≤ ex b ∧ ex b ≤ 972 := by
  unfold ex
  split <;> omega
theorem pw_ex {b : Nat} (h : dg b ≠ 0) : pw b = ex b + (Lib.ctz 64 (dg b) : Nat) := by
  unfold pw ex
  rw [if_neg h]
  by_cases h0 : b / 4503599627370496 % 2048 = 0
  · rw [if_pos h0, h0]; omega
  · rw [if_neg h0]; omega
theorem rbehind (b : Nat) (hb : b < 18446744073709551616) (w : World) :
    Calls Tryd.prog 66 #[.int .u64 b] w fun e w' => e = .returned (.int .i64 (beh b : Nat)) ∧ Below w.heap.size w w' := by
  have he := ex_bounds b
  by_cases h : rg b < INF
  · by_cases h0 : dg b = 0
    · have e : beh b = 0 := by unfold beh pw; rw [if_pos h, if_pos h0]; rfl
      rw [e]
      exact rbehind_zero b hb h h0 w
    · obtain ⟨m, hm, ht⟩ := ctz_word h0 (dg_lt b)
      have e : ((beh b : Nat) : Int) = max 0 (-(ex b) - (Lib.ctz 64 (dg b) : Nat)) := by
        unfold beh
        rw [if_pos h, pw_ex h0]
        omega
      rw [e]
      exact rbehind_core b (dg b) _ m _ (ex b) (sg b == 1) hm (dg_len b) ht he.1 (by omega) rfl (by have := (blen_spec h0).1; rw [beq_eq_false_iff_ne]; omega) w (fun W => rparts_fin b hb h W)
  · have e : beh b = 0 := by unfold beh; rw [if_neg h]
    rw [e]
    exact rbehind_inf b hb h w
end Go.Proofs.YtgklokjilfeklaaDoor
