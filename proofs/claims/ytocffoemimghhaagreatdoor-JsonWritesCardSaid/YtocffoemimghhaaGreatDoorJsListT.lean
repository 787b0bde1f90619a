/-
  Values as an array, values and names as a map: what they are, that they may be, what their text is. No walk.
-/
import Derived.Test.YtocffoemimghhaaGreatDoorGJ2
import Derived.Test.YtocffoemimghhaaGreatDoorValFew
namespace Go.Proofs.YtocffoemimghhaaGreatDoor
open Go.RowKit Go.Shelf
set_option linter.unusedVariables false

/-- An array of values. -/
def listP (la : Option Addr) (lc : Nat) (kids : List VT) : VT := .mk ⟨7, false, 0, 0, ⟨#[]⟩, la, lc, none, 0, []⟩ kids
/-- A map of values. -/
def mapP (la : Option Addr) (lc : Nat) (ka : Option Addr) (kc : Nat) (keys : List ByteArray) (kids : List VT) : VT := .mk ⟨8, false, 0, 0, ⟨#[]⟩, la, lc, ka, kc, keys⟩ kids
/-- The first n of the letters a to e, each as a name. -/
def jnm (n : Nat) : List ByteArray := (List.range n).map fun i => ⟨#[UInt8.ofNat (97 + i)]⟩
end Go.Proofs.YtocffoemimghhaaGreatDoor
