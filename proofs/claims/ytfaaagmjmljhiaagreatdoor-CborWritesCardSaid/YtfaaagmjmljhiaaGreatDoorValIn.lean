/-
  value.isProtoNumber, notJSON, notProto, In: the contracts.
-/
import Derived.Test.YtfaaagmjmljhiaaGreatDoorValMay
namespace Go.Proofs.YtfaaagmjmljhiaaGreatDoor
open Go.RowKit Go.Shelf

/-- Is a whole number one of proto3's, or a double? -/
def protoB (g : Bool) (x : Nat) : Bool :=
  if g = true ∧ x = 0 then false
  else (decide (-9223372036854775808 ≤ (if g then -(x : Int) else x) ∧ (if g then -(x : Int) else x) < 9223372036854775808) || (decide (0 ≤ (if g then -(x : Int) else x) ∧ (if g then -(x : Int) else x) < 18446744073709551616) || exq x))
theorem I5_of (g : Bool) (x : Nat) (h : ¬ (g = true ∧ x = 0)) : I5 g x = Iz (if g then -(x : Int) else x) ∧ (if g then -(x : Int) else (x : Int)).natAbs = x := by
  cases g with
  | false => exact ⟨by simp only [Bool.false_eq_true, if_false]; unfold Iz; rw [decide_eq_false (by omega), Int.natAbs_natCast], by simp⟩
  | true =>
    have : x ≠ 0 := fun e => h ⟨rfl, e⟩
    exact ⟨by simp only [if_true]; unfold Iz; rw [decide_eq_true (by omega), Int.natAbs_neg, Int.natAbs_natCast], by simp⟩
theorem znt_pair (k : IntKind) (z : Int) (b : Bool) : ∃ v, Znt k z b = .tuple #[.int k v, .bool b] := by
  cases b with
  | false => exact ⟨0, rfl⟩
  | true => exact ⟨z, rfl⟩
section
variable (g : Bool) (x0 x1 x2 x3 b : Int) (s : ByteArray) (la : Option Addr) (n lc : Nat) (ka : Option Addr) (m kc : Nat) (w : World)
end

def notJsonT (T : VT) : Bool := decide (T.o.kind = 6) || (decide (T.o.kind = 4) && (((cls T.o.bits.toNat : Nat) : Int) != 1))
def notProtoT (T : VT) : Bool := if T.o.kind = 1 then true else if T.o.kind = 3 then !protoB T.o.g T.o.x else if T.o.kind = 7 then T.kids.any (fun t => t.o.kind == 7) else false
/-- What value.In answers. -/
def inB (T : VT) (lang : Int) : Bool :=
  if mayN T = 0 then (if lang = 1 then !hasT notJsonT T else if lang = 2 then true else if lang = 3 then decide (T.o.kind = 8) && !hasT notProtoT T else false) else false
end Go.Proofs.YtfaaagmjmljhiaaGreatDoor
