/-
  What a parse answers, as a number and whether there is one.
-/
import Derived.Test.YtebfggiodhaahaaGreatDoorGN
namespace Go.Proofs.YtebfggiodhaahaaGreatDoor
open Go.RowKit Go.Shelf

theorem pend_eq {s : ByteArray} {f : FuncId} {w : World} (k : Calls Tryz.prog f #[.string s] w fun e w' => ParseEnd s e ∧ Below w.heap.size w w') :
    Calls Tryz.prog f #[.string s] w fun e w' => e = .returned (.tuple #[N4 ((parseN s).getD 0), .bool (parseN s).isSome]) ∧ Below w.heap.size w w' := by
  refine k.mono ?_
  rintro e w' ⟨h, hb⟩
  refine ⟨?_, hb⟩
  unfold ParseEnd at h
  rw [h]
  cases parseN s with
  | none => simp only [Option.getD, Option.isSome, N4, lb_zero]
  | some v => rfl
theorem dfold_below : ∀ (l : List UInt8) (x y : Nat), x < 2 ^ 256 → dfold l x = some y → y < 2 ^ 256
  | [], x, y, hx, h => by simp only [dfold] at h; cases h; exact hx
  | c :: l, x, y, hx, h => by
    simp only [dfold] at h
    cases hd : dstep x c with
    | none => rw [hd] at h; cases h
    | some z => rw [hd] at h; exact dfold_below l z y (dstep_lt hd) h
theorem parseN_below (s : ByteArray) : (parseN s).getD 0 < 2 ^ 256 := by
  cases h : parseN s with
  | none => exact Nat.two_pow_pos _
  | some v =>
    unfold parseN at h
    split at h
    · cases h
    · exact dfold_below _ 0 v (by decide) h
end Go.Proofs.YtebfggiodhaahaaGreatDoor
