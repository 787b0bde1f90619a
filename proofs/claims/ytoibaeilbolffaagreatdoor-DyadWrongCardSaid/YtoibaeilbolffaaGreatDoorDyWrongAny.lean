/-
  entrepotlaw4.DyadWrong answers true for every number and every way of spoiling it: the contracts put in.
-/
import Derived.Test.YtoibaeilbolffaaGreatDoorDyWrongW
namespace Go.Proofs.YtoibaeilbolffaaGreatDoor
open Go.RowKit Go.Shelf

theorem dwrong_any (n h : Int) (hn0 : 0 ≤ n) (hn1 : n < 18446744073709551616) (w : World) (hT : Tb w) (hU : Tab w) :
    Calls Tryz.prog 6 #[.int .u64 n, .int .i64 h] w fun e w' => e = .returned (.bool true) ∧ Below w.heap.size w w' := by
  obtain ⟨nn, rfl⟩ := Int.eq_ofNat_of_zero_le hn0
  have hn : nn < 2 ^ 64 := by
    have : nn < 18446744073709551616 := by omega
    exact this
  have hU0 : 0 ≤ IntKind.u64.wrap h ∧ IntKind.u64.wrap h < 18446744073709551616 := by rw [IntKind.wrap_u64]; omega
  obtain ⟨U, hUe⟩ : ∃ U, IntKind.u64.wrap h = U := ⟨_, rfl⟩
  rw [hUe] at hU0
  obtain ⟨r, hr⟩ : ∃ r : Nat, U % 20 = (r : Int) := ⟨(U % 20).toNat, by omega⟩
  refine wrong_walk nn h U r hn hUe hU0.1 hU0.2 hr w (fun T W hrd hl hW => ?_) (fun W hW => ?_) (fun W hW => told4_true W (tb_on hT hW) (tab_on hU hW))
  · have := dparse_any T W (tb_on hT hW)
    have e : dpans T = ER 3 := by
      unfold dpans
      rw [if_neg (by omega), hrd]
    rw [e] at this
    exact this
  · have := dparse_any (Lib.decDigits nn) W (tb_on hT hW)
    rw [dpans_dec hn, vx_of 3 nn hn] at this
    exact this
end Go.Proofs.YtoibaeilbolffaaGreatDoor
