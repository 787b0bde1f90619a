/-
  RefText WholeI WholeJ RefNum NumWalk NumAny RefNear ExWalk ExAny, one behind the other: a claim holds at most 60 files.
-/
import Derived.Test.YtbfgkogccfioiaaGreatDoorRefLess
import Derived.Test.YtbfgkogccfioiaaGreatDoorGC
import Derived.Test.YtbfgkogccfioiaaGreatDoorGD
import Derived.Test.YtbfgkogccfioiaaGreatDoorGE
import Derived.Lib.ItoaWalk
import Derived.Test.YtbfgkogccfioiaaGreatDoorRefInt
section
namespace Go.Proofs.YtbfgkogccfioiaaGreatDoor
open Go.RowKit Go.Shelf

/-- What stands at the head of Print's loop. -/
def PrAt (x y : Nat) (p : ByteArray) : Prop := if y = 0 then p.data.toList = Lib.decDigits x else Lib.decDigits x = Lib.decDigits y ++ p.data.toList
theorem PrAt.size {x y : Nat} {p : ByteArray} (h : PrAt x y p) (h0 : y ≠ 0) : p.size < (Lib.decDigits x).length := by
  unfold PrAt at h
  rw [if_neg h0] at h
  rw [h, List.length_append]
  have := dec_pos y
  have e : p.data.toList.length = p.size := by simp
  omega
theorem PrAt.next {x y : Nat} {p : ByteArray} (h : PrAt x y p) (h0 : y ≠ 0) : PrAt x (y / 10) (⟨#[UInt8.ofNat (48 + y % 10)]⟩ ++ p) := by
  unfold PrAt at h ⊢
  rw [if_neg h0] at h
  have e : (⟨#[UInt8.ofNat (48 + y % 10)]⟩ ++ p : ByteArray).data.toList = UInt8.ofNat (48 + y % 10) :: p.data.toList := by simp
  rw [e]
  by_cases h10 : y < 10
  · rw [if_pos (by omega)]; exact (dec_last y h10 _ _ h).symm
  · rw [if_neg (by omega)]; exact dec_cons y (by omega) _ _ h
theorem PrAt.stop {x : Nat} {p : ByteArray} (h : PrAt x 0 p) : p = dstr x := by
  unfold PrAt at h
  rw [if_pos rfl] at h
  exact dstr_of h
end Go.Proofs.YtbfgkogccfioiaaGreatDoor
end
section
namespace Go.Proofs.YtbfgkogccfioiaaGreatDoor
open Go.RowKit Go.Shelf
attribute [local go_sem ↓] eql_nat neq_nat eql_int5 neq_int5

end Go.Proofs.YtbfgkogccfioiaaGreatDoor
end
section
namespace Go.Proofs.YtbfgkogccfioiaaGreatDoor
open Go.RowKit Go.Shelf
attribute [local go_sem ↓] eql_nat neq_nat eql_int5 neq_int5

/-- An integer's decimals. -/
def zstr (z : Int) : ByteArray := if z < 0 then ⟨#[45]⟩ ++ dstr z.natAbs else dstr z.natAbs
/-- What a text is read as. -/
def parseZ (s : ByteArray) : Option Int :=
  match parseN ⟨(Lib.trimPrefix s.data.toList [45]).toArray⟩ with
  | some v => if Lib.hasPrefix s.data.toList [45] then (if v = 0 then none else some (-(v : Int))) else some (v : Int)
  | none => none
def ZEnd (o : Option Int) : Value := match o with
  | some z => .tuple #[Iz z, .bool true]
  | none => .tuple #[Z5, .bool false]
end Go.Proofs.YtbfgkogccfioiaaGreatDoor
end
section
namespace Go.Proofs.YtbfgkogccfioiaaGreatDoor
open Go.RowKit Go.Shelf
attribute [local go_sem ↓] eql_nat neq_nat eql_int5 neq_int5

end Go.Proofs.YtbfgkogccfioiaaGreatDoor
end
section
namespace Go.Proofs.YtbfgkogccfioiaaGreatDoor
open Go.RowKit Go.Shelf
open Go.Sort (grow)
attribute [local go_sem ↓] eql_nat neq_nat eql_int5 neq_int5

end Go.Proofs.YtbfgkogccfioiaaGreatDoor
end
section
namespace Go.Proofs.YtbfgkogccfioiaaGreatDoor
open Go.RowKit Go.Shelf

end Go.Proofs.YtbfgkogccfioiaaGreatDoor
end
section
namespace Go.Proofs.YtbfgkogccfioiaaGreatDoor
open Go.RowKit Go.Shelf
attribute [local go_sem ↓] eql_nat neq_nat eql_int5 neq_int5

end Go.Proofs.YtbfgkogccfioiaaGreatDoor
end
section
namespace Go.Proofs.YtbfgkogccfioiaaGreatDoor
open Go.RowKit Go.Shelf
open Go.Sort (grow)
attribute [local go_sem ↓] eql_nat neq_nat eql_int5 neq_int5

end Go.Proofs.YtbfgkogccfioiaaGreatDoor
end
section
namespace Go.Proofs.YtbfgkogccfioiaaGreatDoor
open Go.RowKit Go.Shelf

/-- The target of Near. -/
def nearT (z : Int) (up ex : Bool) : Int := if ex then (if up then eup z else -(eup (-z))) else (if up then rup z else -(rup (-z)))
end Go.Proofs.YtbfgkogccfioiaaGreatDoor
end
