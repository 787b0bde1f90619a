/-
  entrepotref6.long, May, of small values: the contracts.
-/
import Derived.Test.YtjdogiehcgfmjaaDoorR6May
import Derived.Test.YtjdogiehcgfmjaaDoorValLoops
namespace Go.Proofs.YtjdogiehcgfmjaaDoor
open Go.RowKit Go.Shelf

/-- Tiny texts, few names. -/
def TinyO (o : Own) : Prop := o.text.size ≤ 300 ∧ o.keys.length ≤ 400 ∧ ∀ s ∈ o.keys, s.size ≤ 300
theorem few_tiny : ∀ (d : Nat) (T : VT), fewT d T ≤ 400 → T.Every TinyO
  | 0, T, h => by rw [fewT_zero] at h; omega
  | d + 1, T, h => by
    obtain ⟨_, _, hb, hk⟩ := fewT_few (d + 1) T h
    obtain ⟨o, kids⟩ := T
    have hk' : ∀ t ∈ kids, fewT d t ≤ 400 := hk
    refine .mk o kids ?_ (fun t ht => few_tiny d t (hk' t ht))
    have hb' : fewB o kids.length = false := hb
    unfold fewB at hb'
    rw [Bool.or_eq_false_iff, Bool.or_eq_false_iff, Bool.or_eq_false_iff, decide_eq_false_iff_not, decide_eq_false_iff_not, List.any_eq_false] at hb'
    obtain ⟨⟨⟨a, b⟩, _⟩, c⟩ := hb'
    exact ⟨by omega, by omega, fun s hs => by have := c s hs; simp at this; omega⟩
theorem tiny_over : ∀ (T : VT), T.Every TinyO → T.nodes ≤ 1000 → hasT overT T = false := by
  intro T
  induction T using VT.ind with
  | h o kids ih =>
    intro hE hn
    have hl := VT.length_nodes o kids
    obtain ⟨h1, h2, h3⟩ := hE.own
    refine hasT_no overT ?_ ?_
    · show overB o kids.length = false
      unfold overB
      have hk : (o.keys.any fun s => decide (4096 < s.size)) = false := by
        rw [List.any_eq_false]
        intro s hs
        have := h3 s hs
        simp; omega
      rw [hk]
      split
      · exact decide_eq_false (by omega)
      split
      · exact decide_eq_false (by omega)
      split
      · rw [decide_eq_false (by omega)]; rfl
      · rfl
    · rw [List.any_eq_false]
      intro t ht
      rw [ih t ht (hE.mem ht) (by have := VT.nodes_kid (o := o) ht; omega)]
      simp

section
variable (kd : Int) (g : Bool) (x0 x1 x2 x3 b : Int) (s : ByteArray) (la : Option Addr) (n lc : Nat) (ka : Option Addr) (m kc : Nat) (w : World)
end
/-- What may be tells the tiny, too. -/
theorem few_all {T : VT} {w : World} (h : fewOk T = true) (hI : T.In w) (hT : Tb w) : Qv T w ∧ T.nodes ≤ 400 ∧ T.depth ≤ 40 ∧ T.Every TinyO := by
  obtain ⟨a, b, c⟩ := few_q h hI hT
  exact ⟨a, b, c, few_tiny 40 T (of_decide_eq_true h)⟩
end Go.Proofs.YtjdogiehcgfmjaaDoor
