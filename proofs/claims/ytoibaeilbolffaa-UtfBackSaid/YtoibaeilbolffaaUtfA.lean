/-
  The small contracts over package utf and the reference's of it: length, begun, goneOn, Point. For every number, every byte.
-/
import Derived.Test.YtoibaeilbolffaaUtfMath
import Derived.WalkSpells
import Derived.WalkLawsBesides
import Derived.Lib.Hide
import Derived.LoopTactic
import Derived.Laws.Runes
import Derived.Laws.BitsAllLaws
import Derived.Deep.QuietTactic
import Derived.BigQuiet
namespace Go.Proofs.Ytoibaeilbolffaa
open Go.RowKit

/-- A code point's size, of any integer. -/
def zlng (c : Int) : Nat := if c < 0 then 0 else ulng c.toNat
theorem zlng_nat (c : Nat) : zlng (c : Int) = ulng c := by unfold zlng; rw [if_neg (by omega), Int.toNat_natCast]
theorem zlng_neg {c : Int} (h : c < 0) : zlng c = 0 := by unfold zlng; rw [if_pos h]

theorem length_none (c : Int) (h : c < 0 ∨ 1114111 < c) (w : World) :
    Calls Try.prog 21 #[.int .i64 c] w fun e w' => e = .returned (.int .i64 0) ∧ w' = w := by
  rcases h with h | h
  · go_enter Try.func21, Try.ntmps21
    go_wp2
    go_ret
    exact ⟨rfl, rfl⟩
  · have h0 : 0 ≤ c := by omega
    go_enter Try.func21, Try.ntmps21
    go_wp2
    go_ret
    exact ⟨rfl, rfl⟩
theorem length_sur (c : Int) (h0 : 55296 ≤ c) (h1 : c ≤ 57343) (w : World) :
    Calls Try.prog 21 #[.int .i64 c] w fun e w' => e = .returned (.int .i64 0) ∧ w' = w := by
  go_enter Try.func21, Try.ntmps21
  go_wp2
  go_ret
  exact ⟨rfl, rfl⟩
theorem length_1 (c : Int) (h0 : 0 ≤ c) (h1 : c < 128) (w : World) :
    Calls Try.prog 21 #[.int .i64 c] w fun e w' => e = .returned (.int .i64 1) ∧ w' = w := by
  go_enter Try.func21, Try.ntmps21
  go_wp2
  go_ret
  exact ⟨rfl, rfl⟩
theorem length_2 (c : Int) (h0 : 128 ≤ c) (h1 : c < 2048) (w : World) :
    Calls Try.prog 21 #[.int .i64 c] w fun e w' => e = .returned (.int .i64 2) ∧ w' = w := by
  go_enter Try.func21, Try.ntmps21
  go_wp2
  go_ret
  exact ⟨rfl, rfl⟩
theorem length_3 (c : Int) (h0 : 2048 ≤ c) (h1 : c < 65536) (h2 : c < 55296 ∨ 57343 < c) (w : World) :
    Calls Try.prog 21 #[.int .i64 c] w fun e w' => e = .returned (.int .i64 3) ∧ w' = w := by
  rcases h2 with h2 | h2
  · go_enter Try.func21, Try.ntmps21
    go_wp2
    go_ret
    exact ⟨rfl, rfl⟩
  · go_enter Try.func21, Try.ntmps21
    go_wp2
    go_ret
    exact ⟨rfl, rfl⟩
theorem length_4 (c : Int) (h0 : 65536 ≤ c) (h1 : c ≤ 1114111) (w : World) :
    Calls Try.prog 21 #[.int .i64 c] w fun e w' => e = .returned (.int .i64 4) ∧ w' = w := by
  go_enter Try.func21, Try.ntmps21
  go_wp2
  go_ret
  exact ⟨rfl, rfl⟩
theorem zlng_cases (c : Int) : (zlng c = 0 ∧ (c < 0 ∨ 1114111 < c)) ∨ (zlng c = 0 ∧ 55296 ≤ c ∧ c ≤ 57343) ∨ (zlng c = 1 ∧ 0 ≤ c ∧ c < 128) ∨ (zlng c = 2 ∧ 128 ≤ c ∧ c < 2048) ∨ (zlng c = 3 ∧ 2048 ≤ c ∧ c < 65536 ∧ (c < 55296 ∨ 57343 < c)) ∨ (zlng c = 4 ∧ 65536 ≤ c ∧ c ≤ 1114111) := by
  unfold zlng ulng
  split
  · omega
  · split
    · omega
    · split
      · omega
      · split
        · omega
        · split <;> omega
theorem length_any (c : Int) (w : World) :
    Calls Try.prog 21 #[.int .i64 c] w fun e w' => e = .returned (.int .i64 (zlng c : Nat)) ∧ w' = w := by
  rcases zlng_cases c with ⟨e, h⟩ | ⟨e, h0, h1⟩ | ⟨e, h0, h1⟩ | ⟨e, h0, h1⟩ | ⟨e, h0, h1, h2⟩ | ⟨e, h0, h1⟩ <;> rw [e]
  · exact length_none c h w
  · exact length_sur c h0 h1 w
  · exact length_1 c h0 h1 w
  · exact length_2 c h0 h1 w
  · exact length_3 c h0 h1 h2 w
  · exact length_4 c h0 h1 w
theorem point_yes (c : Int) (h0 : 0 ≤ c) (h1 : c ≤ 1114111) (h2 : c < 55296 ∨ 57343 < c) (w : World) :
    Calls Try.prog 22 #[.int .i64 c] w fun e w' => e = .returned (.bool true) ∧ w' = w := by
  rcases h2 with h2 | h2
  · go_enter Try.func22, Try.ntmps22
    go_wp2
    go_ret
    exact ⟨rfl, rfl⟩
  · go_enter Try.func22, Try.ntmps22
    go_wp2
    go_ret
    exact ⟨rfl, rfl⟩
theorem point_no (c : Int) (h : c < 0 ∨ 1114111 < c ∨ (55296 ≤ c ∧ c ≤ 57343)) (w : World) :
    Calls Try.prog 22 #[.int .i64 c] w fun e w' => e = .returned (.bool false) ∧ w' = w := by
  rcases h with h | h | ⟨h, h2⟩
  · go_enter Try.func22, Try.ntmps22
    go_wp2
    go_ret
    exact ⟨rfl, rfl⟩
  · have h0 : 0 ≤ c := by omega
    go_enter Try.func22, Try.ntmps22
    go_wp2
    go_ret
    exact ⟨rfl, rfl⟩
  · have d1 : decide (c < 55296) = false := decide_eq_false (by omega)
    have d2 : decide (57343 < c) = false := decide_eq_false (by omega)
    go_enter Try.func22, Try.ntmps22
    go_wp2
    go_ret
    exact ⟨rfl, rfl⟩
theorem point_any (c : Int) (w : World) :
    Calls Try.prog 22 #[.int .i64 c] w fun e w' => e = .returned (.bool (decide (zlng c ≠ 0))) ∧ w' = w := by
  rcases zlng_cases c with ⟨e, h⟩ | ⟨e, h0, h1⟩ | ⟨e, h0, h1⟩ | ⟨e, h0, h1⟩ | ⟨e, h0, h1, h2⟩ | ⟨e, h0, h1⟩ <;> rw [e]
  · exact point_no c (by omega) w
  · exact point_no c (by omega) w
  · exact point_yes c (by omega) (by omega) (by omega) w
  · exact point_yes c (by omega) (by omega) (by omega) w
  · exact point_yes c (by omega) (by omega) (by omega) w
  · exact point_yes c (by omega) (by omega) (by omega) w

theorem and_u8 {b m : Nat} (hb : b < 256) (hm : m < 256) : bits .and .u8 (b : Int) (m : Int) = ((b &&& m : Nat) : Int) := u8_and_nat b m hb hm
theorem begun_1 (b : Nat) (h : b < 128) (w : World) :
    Calls Try.prog 19 #[.int .u8 (b : Int)] w fun e w' => e = .returned (.tuple #[.int .i32 (b : Int), .int .i64 1]) ∧ w' = w := by
  have w1 : IntKind.i32.wrap (b : Int) = b := by simp [IntKind.wrap, IntKind.bits, IntKind.signed]; omega
  go_enter Try.func19, Try.ntmps19
  go_wp2
  go_ret2
  exact ⟨rfl, rfl⟩
theorem begun_no (b : Nat) (h : (128 ≤ b ∧ b < 192) ∨ (248 ≤ b ∧ b < 256)) (w : World) :
    Calls Try.prog 19 #[.int .u8 (b : Int)] w fun e w' => e = .returned (.tuple #[.int .i32 0, .int .i64 0]) ∧ w' = w := by
  rcases h with ⟨h, h2⟩ | ⟨h, h2⟩
  · go_enter Try.func19, Try.ntmps19
    go_wp2
    go_ret2
    exact ⟨rfl, rfl⟩
  · go_enter Try.func19, Try.ntmps19
    go_wp2
    go_ret2
    exact ⟨rfl, rfl⟩
theorem begun_more (b c m : Nat) (n : Int) (h : (192 ≤ b ∧ b < 224 ∧ n = 2 ∧ m = 31) ∨ (224 ≤ b ∧ b < 240 ∧ n = 3 ∧ m = 15) ∨ (240 ≤ b ∧ b < 248 ∧ n = 4 ∧ m = 7)) (hc : bits .and .u8 (b : Int) (m : Int) = (c : Int)) (hc2 : c < 256) (w : World) :
    Calls Try.prog 19 #[.int .u8 (b : Int)] w fun e w' => e = .returned (.tuple #[.int .i32 (c : Int), .int .i64 n]) ∧ w' = w := by
  have w1 : IntKind.i32.wrap (c : Int) = c := by simp [IntKind.wrap, IntKind.bits, IntKind.signed]; omega
  rcases h with ⟨h1, h2, rfl, rfl⟩ | ⟨h1, h2, rfl, rfl⟩ | ⟨h1, h2, rfl, rfl⟩
  · have hc' : bits .and .u8 (b : Int) 31 = (c : Int) := hc
    clear hc
    go_enter Try.func19, Try.ntmps19
    go_wp2
    go_ret2
    exact ⟨rfl, rfl⟩
  · have hc' : bits .and .u8 (b : Int) 15 = (c : Int) := hc
    clear hc
    go_enter Try.func19, Try.ntmps19
    go_wp2
    go_ret2
    exact ⟨rfl, rfl⟩
  · have hc' : bits .and .u8 (b : Int) 7 = (c : Int) := hc
    clear hc
    go_enter Try.func19, Try.ntmps19
    go_wp2
    go_ret2
    exact ⟨rfl, rfl⟩
theorem begun_any (b : Nat) (hb : b < 256) (w : World) :
    Calls Try.prog 19 #[.int .u8 (b : Int)] w fun e w' => e = .returned (.tuple #[.int .i32 (uown b : Nat), .int .i64 (usz b : Nat)]) ∧ w' = w := by
  unfold uown usz
  by_cases h1 : b < 128
  · rw [if_pos h1, if_pos h1]; exact begun_1 b h1 w
  by_cases h2 : b < 192
  · rw [if_neg h1, if_neg h1, if_pos h2, if_pos h2]; exact begun_no b (by omega) w
  by_cases h3 : b < 224
  · rw [if_neg h1, if_neg h1, if_neg h2, if_neg h2, if_pos h3, if_pos h3]
    exact begun_more b _ 31 2 (by omega) (by rw [and_u8 hb (by decide), nat_mask5]; omega) (by omega) w
  by_cases h4 : b < 240
  · rw [if_neg h1, if_neg h1, if_neg h2, if_neg h2, if_neg h3, if_neg h3, if_pos h4, if_pos h4]
    exact begun_more b _ 15 3 (by omega) (by rw [and_u8 hb (by decide), nat_mask4]; omega) (by omega) w
  by_cases h5 : b < 248
  · rw [if_neg h1, if_neg h1, if_neg h2, if_neg h2, if_neg h3, if_neg h3, if_neg h4, if_neg h4, if_pos h5, if_pos h5]
    exact begun_more b _ 7 4 (by omega) (by rw [and_u8 hb (by decide), nat_mask3]; omega) (by omega) w
  · rw [if_neg h1, if_neg h1, if_neg h2, if_neg h2, if_neg h3, if_neg h3, if_neg h4, if_neg h4, if_neg h5, if_neg h5]
    exact begun_no b (by omega) w
theorem gone_any (b : Nat) (hb : b < 256) (w : World) :
    Calls Try.prog 20 #[.int .u8 (b : Int)] w fun e w' => e = .returned (.tuple #[.int .i32 ((b % 64 : Nat) : Int), .bool (ucon b)]) ∧ w' = w := by
  obtain ⟨c, hc⟩ : ∃ c, c = b % 64 := ⟨_, rfl⟩
  have h1 : bits .and .u8 (b : Int) 63 = (c : Int) := by
    have := and_u8 (m := 63) hb (by decide)
    rw [nat_mask6, ← hc] at this
    exact this
  rw [← hc]
  have w1 : IntKind.i32.wrap (c : Int) = c := by simp [IntKind.wrap, IntKind.bits, IntKind.signed]; omega
  have e : ucon b = ((b : Int) / 64 == 2) := by
    unfold ucon
    rw [Bool.eq_iff_iff, decide_eq_true_iff, beq_iff_eq]
    omega
  rw [e]
  clear e hc
  go_enter Try.func20, Try.ntmps20
  go_wp2
  go_ret2
  exact ⟨rfl, rfl⟩
end Go.Proofs.Ytoibaeilbolffaa
