/-
  nat.Print, said of a number's decimals as a text. The table internal/strconv.uint64pow10 reads as its initialiser lays it.
-/
import Derived.Test.YtoibaeilbolffaaGreatDoorNatPrint
namespace Go.Proofs.YtoibaeilbolffaaGreatDoor
open Go.RowKit Go.Shelf

/-- A number's decimals. -/
def dstr (x : Nat) : ByteArray := ⟨(Lib.decDigits x).toArray⟩
theorem dstr_list (x : Nat) : (dstr x).data.toList = Lib.decDigits x := by
  show (Lib.decDigits x).toArray.toList = _
  simp
theorem dstr_size (x : Nat) : (dstr x).size = (Lib.decDigits x).length := by
  show (Lib.decDigits x).toArray.size = _
  simp
theorem dstr_of {p : ByteArray} {x : Nat} (h : p.data.toList = Lib.decDigits x) : p = dstr x := by
  obtain ⟨⟨l⟩⟩ := p
  unfold dstr
  simp only at h
  rw [← h]
theorem dstr_le {x : Nat} (h : x < 2 ^ 256) : (dstr x).size ≤ 78 := by
  rw [dstr_size]
  exact dec_len (k := 78) (r := x) (by decide) (by omega)
theorem print_str (x : Nat) (hx : x < 2 ^ 256) (w : World) (hT : Tab w) :
    Calls Tryz.prog 31 #[N4 x] w fun e w' => e = .returned (.string (dstr x)) ∧ Below w.heap.size w w' := by
  refine (print_any x hx w hT).mono ?_
  rintro e w' ⟨⟨p, rfl, hp⟩, hb⟩
  exact ⟨by rw [dstr_of hp], hb⟩
end Go.Proofs.YtoibaeilbolffaaGreatDoor
