/-
  Sets as a call is handed them and as it answers them: the contracts of span's calls once more, said of which numbers are in.
-/
import Derived.Test.YtjlgiejggcbgbaaDoorSV
namespace Go.Proofs.YtjlgiejggcbgbaaDoor
open Go.RowKit Go.Shelf

/-- A slice that reads as spans that may be, at most so many, of these numbers. -/
def IS (w : World) (v : Value) (f : Int → Bool) (k : Nat) : Prop := ∃ A : List Sp, In9 w v A ∧ A.length ≤ k ∧ ∀ x, -topM ≤ x → x ≤ topM → memS A x = f x
/-- A slice that reads as the normal form of a set. -/
def NS (w : World) (v : Value) (f : Int → Bool) (k : Nat) : Prop := ∃ (la : Option Addr) (lc bb : Nat) (P : List (Int × Int)), v = .slice la P.length lc ∧ Ls w la (P.map fun p => rsp (ofSp p)) bb 0 ∧ P.length ≤ lc ∧ lc ≤ maxLen ∧ IsN P f ∧ P.length ≤ k
theorem IS.keep {w w' : World} {v : Value} {f : Int → Bool} {k : Nat} (h : IS w v f k) (hb : Below w.heap.size w w') : IS w' v f k := by
  obtain ⟨A, h1, h2⟩ := h
  exact ⟨A, h1.keep hb, h2⟩
theorem NS.keep {w w' : World} {v : Value} {f : Int → Bool} {k : Nat} (h : NS w v f k) (hb : Below w.heap.size w w') : NS w' v f k := by
  obtain ⟨la, lc, bb, P, h1, h2, h3⟩ := h
  exact ⟨la, lc, bb, P, h1, h2.keep hb, h3⟩
theorem NS.is {w : World} {v : Value} {f : Int → Bool} {k : Nat} (h : NS w v f k) (hk : k ≤ 1000) : IS w v f k := by
  obtain ⟨la, lc, bb, P, h1, h2, h3, h4, h5, h6⟩ := h
  refine ⟨P.map ofSp, ⟨la, lc, bb, 0, by rw [h1, List.length_map], by rw [List.map_map]; exact h2, by rw [List.length_map]; exact h3, h4, h5.rng, by rw [List.length_map]; omega⟩, by rw [List.length_map]; exact h6, fun x h1 h2 => ?_⟩
  rw [memS_of]
  exact h5.2 x h1 h2
theorem IS.nil (w : World) : IS w (.slice none 0 0) (fun _ => false) 0 := ⟨[], In9.nil w, Nat.le_refl _, fun _ _ _ => rfl⟩
theorem IS.of {w : World} {v : Value} {A : List Sp} (h : In9 w v A) : IS w v (fun x => memS A x) A.length := ⟨A, h, Nat.le_refl _, fun _ _ _ => rfl⟩
theorem Sets.ns {w w' : World} {e : Ending} {f g : Int → Bool} {k m : Nat} (h : Sets w f k e w') (hfg : ∀ x, -topM ≤ x → x ≤ topM → f x = g x) (hkm : k ≤ m) : ∃ v, e = .returned v ∧ NS w' v g m ∧ Below w.heap.size w w' := by
  obtain ⟨v, he, P, h1, h2, h3, h4⟩ := h
  obtain ⟨la, lc, bb, k1, k2, k3, k4, _⟩ := Bs.form h1
  rw [List.length_map] at k1 k3
  exact ⟨v, he, ⟨la, lc, bb, P, k1, k2, k3, k4, ⟨h2.1, fun x a b => (h2.2 x a b).trans (hfg x a b)⟩, by omega⟩, h4⟩
theorem or_is {w : World} {a b : Value} {f g : Int → Bool} {k m : Nat} (ha : IS w a f k) (hb : IS w b g m) : Calls Tryd.prog 13 #[a, b] w fun e w' => ∃ v, e = .returned v ∧ NS w' v (fun x => f x || g x) (1 + k + m) ∧ Below w.heap.size w w' := by
  obtain ⟨A, a1, a2, a3⟩ := ha
  obtain ⟨B, b1, b2, b3⟩ := hb
  exact (or_in a1 b1).mono fun e w' h => h.ns (fun x h1 h2 => by rw [a3 x h1 h2, b3 x h1 h2]) (by omega)
theorem and_is {w : World} {a b : Value} {f g : Int → Bool} {k m : Nat} (ha : IS w a f k) (hb : IS w b g m) : Calls Tryd.prog 15 #[a, b] w fun e w' => ∃ v, e = .returned v ∧ NS w' v (fun x => f x && g x) (1 + k + m) ∧ Below w.heap.size w w' := by
  obtain ⟨A, a1, a2, a3⟩ := ha
  obtain ⟨B, b1, b2, b3⟩ := hb
  exact (and_in a1 b1).mono fun e w' h => h.ns (fun x h1 h2 => by rw [a3 x h1 h2, b3 x h1 h2]) (by omega)
theorem not_is {w : World} {a : Value} {f : Int → Bool} {k : Nat} (ha : IS w a f k) : Calls Tryd.prog 11 #[a] w fun e w' => ∃ v, e = .returned v ∧ NS w' v (fun x => !f x) (1 + k) ∧ Below w.heap.size w w' := by
  obtain ⟨A, a1, a2, a3⟩ := ha
  exact (not_in a1).mono fun e w' h => h.ns (fun x h1 h2 => by rw [a3 x h1 h2]) (by omega)
theorem norm_is {w : World} {a : Value} {f : Int → Bool} {k : Nat} (ha : IS w a f k) : Calls Tryd.prog 9 #[a] w fun e w' => ∃ v, e = .returned v ∧ NS w' v f (1 + k) ∧ Below w.heap.size w w' := by
  obtain ⟨A, a1, a2, a3⟩ := ha
  exact (norm_in a1).mono fun e w' h => h.ns (fun x h1 h2 => by rw [a3 x h1 h2]) (by omega)
theorem may_is {w : World} {a : Value} {f : Int → Bool} {k : Nat} (ha : IS w a f k) : Calls Tryd.prog 6 #[a] w fun e w' => e = .returned (.bool true) ∧ Below w.heap.size w w' := by
  obtain ⟨A, a1, _⟩ := ha
  exact may_in a1
/-- The reference's Same, of two normal forms of one set. -/
theorem rsame_ns {w : World} {a b : Value} {f g : Int → Bool} {k m : Nat} (ha : NS w a f k) (hb : NS w b g m) (hfg : ∀ x, -topM ≤ x → x ≤ topM → f x = g x) : Calls Tryd.prog 8 #[a, b] w fun e w' => e = .returned (.bool true) ∧ Below w.heap.size w w' := by
  obtain ⟨la, lca, ba, P, rfl, a2, a3, a4, a5, a6⟩ := ha
  obtain ⟨lb, lcb, bb, Q, rfl, b2, b3, b4, b5, b6⟩ := hb
  obtain rfl : P = Q := IsN.uniq' a5 b5 hfg
  have := rsame la lb lca lcb _ _ ba 0 bb 0 w a2 b2
  rw [(eqL_iff (row_bounds a5) (row_bounds a5)).2 rfl, List.length_map] at this
  exact this
end Go.Proofs.YtjlgiejggcbgbaaDoor
