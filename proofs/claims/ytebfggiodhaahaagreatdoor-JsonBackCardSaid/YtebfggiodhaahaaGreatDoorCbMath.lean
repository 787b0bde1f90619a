/-
  CBOR's heads as bytes: plain facts on lists of bytes. No Go.
-/
import Derived.Test.YtebfggiodhaahaaGreatDoorButFrame
namespace Go.Proofs.YtebfggiodhaahaaGreatDoor
open Go.RowKit

/-- So many bytes of a number, the greatest first. -/
def be (n : Nat) : Nat → List UInt8
  | 0 => []
  | k + 1 => UInt8.ofNat (n / 256 ^ k) :: be n k
@[simp] theorem be_zero (n : Nat) : be n 0 = [] := rfl
theorem be_succ (n k : Nat) : be n (k + 1) = UInt8.ofNat (n / 256 ^ k) :: be n k := rfl
@[simp] theorem be_len (n : Nat) : ∀ k, (be n k).length = k
  | 0 => rfl
  | k + 1 => by rw [be_succ, List.length_cons, be_len n k]
/-- The number of bytes, the greatest first. -/
def nb (l : List UInt8) : Nat := l.foldl (fun a b => a * 256 + b.toNat) 0
/-- How many bytes stand behind a head's first. -/
def hsz (a : Nat) : Nat := if a < 24 ∨ a = 31 then 0 else 2 ^ (a - 24)
/-- A head's bytes. -/
def hby (m a n : Nat) : List UInt8 := UInt8.ofNat (m * 32 + a) :: be n (hsz a)
/-- The additional information of the shortest head. -/
def sinf (n : Nat) : Nat := if n < 24 then n else if n < 256 then 24 else if n < 65536 then 25 else if n < 4294967296 then 26 else 27
/-- The shortest head. -/
def hds (m n : Nat) : List UInt8 := hby m (sinf n) n
end Go.Proofs.YtebfggiodhaahaaGreatDoor
