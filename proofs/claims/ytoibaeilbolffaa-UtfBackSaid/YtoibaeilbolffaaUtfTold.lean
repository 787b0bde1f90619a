/-
  told of layer 5: true.
-/
import Derived.Test.YtoibaeilbolffaaUtfMid
import Derived.Lib.QuietBelow
namespace Go.Proofs.Ytoibaeilbolffaa
open Go.RowKit

theorem told5_next (W : World) : Calls Try.prog 9 #[.string ⟨#[195, 169]⟩, .int .i64 0] W fun e w' => e = .returned (.tuple #[.int .i64 233, .int .i64 2]) ∧ w' = W := by
  have h := next_any ⟨#[195, 169]⟩ (by decide) 0 W
  rw [show nans (uat ⟨#[195, 169]⟩ 0) = .tuple #[.int .i64 233, .int .i64 2] from by
    rw [show uat ⟨#[195, 169]⟩ 0 = [195, 169] from rfl, nans_some (c := 233) (n := 2) (by decide +kernel)]; rfl] at h
  exact h
theorem told5_valid (W : World) : Calls Try.prog 11 #[.string ⟨#[237, 160, 128]⟩] W fun e w' => e = .returned (.bool false) ∧ w' = W := by
  have h := valid_any ⟨#[237, 160, 128]⟩ (by decide) W
  rw [show uval (ByteArray.mk #[237, 160, 128]).data.toList = false from by
    rw [uval_cons (by simp), show udec (ByteArray.mk #[237, 160, 128]).data.toList = none from by decide +kernel]; rfl] at h
  exact h
theorem told5_count (W : World) : Calls Try.prog 13 #[.string ⟨#[97, 195, 169]⟩] W fun e w' => e = .returned (.int .i64 2) ∧ w' = W := by
  have h := count_any ⟨#[97, 195, 169]⟩ (by decide) W
  rw [show ucnt (ByteArray.mk #[97, 195, 169]).data.toList = 2 from by
    show ucnt [97, 195, 169] = 2
    rw [ucnt_cons (by simp), show ([97, 195, 169] : List UInt8).drop (unn [97, 195, 169]) = [195, 169] from by decide +kernel, ucnt_cons (by simp), show ([195, 169] : List UInt8).drop (unn [195, 169]) = [] from by decide +kernel, ucnt_nil]] at h
  exact h
theorem told5_put (W : World) : Calls Try.prog 15 #[.int .i64 8364] W fun e w' => e = .returned (.string ⟨#[226, 130, 172]⟩) ∧ w' = W := by
  have h := put_any 8364 W
  rw [show uput 8364 = ⟨#[226, 130, 172]⟩ from by decide +kernel] at h
  exact h
theorem told5_put0 (W : World) : Calls Try.prog 15 #[.int .i64 (-1)] W fun e w' => e = .returned (.string ⟨#[]⟩) ∧ w' = W := by
  have h := put_any (-1) W
  rw [show uput (-1) = ⟨#[]⟩ from by decide +kernel] at h
  exact h
theorem told5_cut (W : World) : Calls Try.prog 17 #[.string ⟨#[97, 195, 169, 98]⟩, .int .i64 2] W fun e w' => e = .returned (.string ⟨#[97, 195, 169]⟩) ∧ Below W.heap.size W w' := by
  have h := cut_any ⟨#[97, 195, 169, 98]⟩ (by decide) 2 (by decide) (by decide) W
  rw [show (ByteArray.mk #[97, 195, 169, 98]).extract 0 (ucut (ByteArray.mk #[97, 195, 169, 98]).data.toList (2 : Int).toNat) = ⟨#[97, 195, 169]⟩ from by
    rw [show ucut (ByteArray.mk #[97, 195, 169, 98]).data.toList (2 : Int).toNat = 3 from by decide +kernel]; decide +kernel] at h
  exact h
set_option maxHeartbeats 1000000 in
theorem told5_true (w : World) : Calls Try.prog 8 #[] w fun e w' => e = .returned (.bool true) ∧ Below w.heap.size w w' := by
  go_enter Try.func8, Try.ntmps8
  go_wp2_with (first | (go_at_call 9; ((with_reducible refine (told5_next _).mono ?_); rintro e w' ⟨rfl, rfl⟩)) | (go_at_call 11; ((with_reducible refine (told5_valid _).mono ?_); rintro e w' ⟨rfl, rfl⟩)) | (go_at_call 13; ((with_reducible refine (told5_count _).mono ?_); rintro e w' ⟨rfl, rfl⟩)) | (go_at_call 15; ((with_reducible refine (told5_put _).mono ?_); rintro e w' ⟨rfl, rfl⟩)) | (go_at_call 15; ((with_reducible refine (told5_put0 _).mono ?_); rintro e w' ⟨rfl, rfl⟩)) | (go_at_call 17; ((with_reducible refine (told5_cut _).mono ?_); rintro e w1 ⟨rfl, hb⟩)))
  go_ret
  exact ⟨rfl, hb⟩
end Go.Proofs.Ytoibaeilbolffaa
