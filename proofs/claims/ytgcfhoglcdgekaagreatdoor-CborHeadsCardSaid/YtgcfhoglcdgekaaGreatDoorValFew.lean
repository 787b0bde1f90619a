/-
  entrepotlaw6.few, Few: the contracts, for every value that lies in memory.
-/
import Derived.Test.YtgcfhoglcdgekaaGreatDoorValTold
namespace Go.Proofs.YtgcfhoglcdgekaaGreatDoor
open Go.RowKit Go.Shelf

section
variable (kd : Int) (g : Bool) (x0 x1 x2 x3 b : Int) (s : ByteArray) (la : Option Addr) (n lc : Nat) (ka : Option Addr) (m kc : Nat) (w : World)
end

/-- Is a value few? -/
def fewOk (T : VT) : Bool := decide (fewT 40 T ≤ 400)
/-- What is few is small. -/
theorem few_small : ∀ (d : Nat) (T : VT), fewT d T ≤ 400 → T.Every SmallO
  | 0, T, h => by rw [fewT_zero] at h; omega
  | d + 1, T, h => by
    obtain ⟨_, _, hb, hk⟩ := fewT_few (d + 1) T h
    obtain ⟨o, kids⟩ := T
    have hk' : ∀ t ∈ kids, fewT d t ≤ 400 := hk
    refine .mk o kids ?_ (fun t ht => few_small d t (hk' t ht))
    have hb' : fewB o kids.length = false := hb
    unfold fewB at hb'
    rw [Bool.or_eq_false_iff, Bool.or_eq_false_iff, Bool.or_eq_false_iff, decide_eq_false_iff_not, List.any_eq_false] at hb'
    obtain ⟨⟨⟨a, _⟩, _⟩, c⟩ := hb'
    exact ⟨by omega, fun s hs => by have := c s hs; simp at this; omega⟩
theorem few_q {T : VT} {w : World} (h : fewOk T = true) (hI : T.In w) (hT : Tb w) : Qv T w ∧ T.nodes ≤ 400 ∧ T.depth ≤ 40 := by
  unfold fewOk at h
  have h' := of_decide_eq_true h
  obtain ⟨a, b, _, _⟩ := fewT_few 40 T h'
  exact ⟨⟨hI, hT, few_small 40 T h'⟩, by omega, b⟩
end Go.Proofs.YtgcfhoglcdgekaaGreatDoor
