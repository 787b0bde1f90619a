/-
  Plain functions on values as trees: few, deeper, has, and what they say of one another. No Go.
-/
import Derived.Test.YtfaaagmjmljhiaaGreatDoorValTree
namespace Go.Proofs.YtfaaagmjmljhiaaGreatDoor
open Go.RowKit

/-- Too many, too long, of a value by itself. -/
def fewB (o : Own) (n : Nat) : Bool := decide (300 < o.text.size) || decide (400 < o.keys.length) || decide (400 < n) || o.keys.any fun s => decide (300 < s.size)
/-- How many parts, as far as it is few. -/
def fewStep (f : VT → Nat) (n : Nat) (t : VT) : Nat := if n < 1000 then n + f t else n
def fewT : Nat → VT → Nat
  | 0, _ => 1000
  | d + 1, T => if fewB T.o T.kids.length then 1000 else T.kids.foldl (fewStep (fewT d)) 1
theorem fewT_zero (T : VT) : fewT 0 T = 1000 := rfl
theorem fewT_bad {d : Nat} {T : VT} (h : fewB T.o T.kids.length = true) : fewT (d + 1) T = 1000 := by rw [fewT, if_pos h]
theorem fewT_good {d : Nat} {T : VT} (h : fewB T.o T.kids.length = false) : fewT (d + 1) T = T.kids.foldl (fewStep (fewT d)) 1 := by rw [fewT, if_neg (by rw [h]; simp)]
theorem fewStep_ge (f : VT → Nat) (n : Nat) (t : VT) : n ≤ fewStep f n t := by unfold fewStep; split <;> omega
theorem fold_ge (f : VT → Nat) (l : List VT) : ∀ n, n ≤ l.foldl (fewStep f) n := by
  induction l with
  | nil => intro n; exact Nat.le_refl _
  | cons t l ih => intro n; exact Nat.le_trans (fewStep_ge f n t) (ih _)
theorem fold_few (f : VT → Nat) (l : List VT) : ∀ n, l.foldl (fewStep f) n ≤ 400 → l.foldl (fewStep f) n = n + (l.map f).sum ∧ ∀ t ∈ l, f t ≤ 400 := by
  induction l with
  | nil => intro n _; exact ⟨by simp, fun t h => by cases h⟩
  | cons t l ih =>
    intro n h
    have h1 := fold_ge f l (fewStep f n t)
    have h2 := fewStep_ge f n t
    have e : fewStep f n t = n + f t := by unfold fewStep; rw [if_pos (by simp only [List.foldl_cons] at h; omega)]
    obtain ⟨h3, h4⟩ := ih _ h
    refine ⟨?_, fun u hu => ?_⟩
    · simp only [List.foldl_cons, List.map_cons, List.sum_cons]; rw [h3, e]; omega
    · rcases List.mem_cons.1 hu with rfl | hu
      · simp only [List.foldl_cons] at h; omega
      · exact h4 u hu
theorem fold_cap (f : VT → Nat) (c : Nat) (l : List VT) (hf : ∀ t ∈ l, f t ≤ c) : ∀ n, n ≤ 999 + c → l.foldl (fewStep f) n ≤ 999 + c := by
  induction l with
  | nil => intro n h; exact h
  | cons t l ih =>
    intro n h
    have := hf t (by simp)
    exact ih (fun u hu => hf u (by simp [hu])) _ (by unfold fewStep; split <;> omega)
theorem fewT_cap : ∀ (d : Nat) (T : VT), fewT d T ≤ 1000 + 1000 * d
  | 0, T => by rw [fewT_zero]; omega
  | d + 1, T => by
    cases h : fewB T.o T.kids.length with
    | true => rw [fewT_bad h]; omega
    | false =>
      rw [fewT_good h]
      have := fold_cap (fewT d) (1000 + 1000 * d) T.kids (fun t _ => fewT_cap d t) 1 (by omega)
      omega
/-- What is few is small in all its parts. -/
theorem fewT_few : ∀ (d : Nat) (T : VT), fewT d T ≤ 400 → T.nodes = fewT d T ∧ T.depth ≤ d ∧ fewB T.o T.kids.length = false ∧ ∀ t ∈ T.kids, fewT (d - 1) t ≤ 400
  | 0, T, h => by rw [fewT_zero] at h; omega
  | d + 1, T, h => by
    cases hb : fewB T.o T.kids.length with
    | true => rw [fewT_bad hb] at h; omega
    | false =>
      rw [fewT_good hb] at h ⊢
      obtain ⟨h1, h2⟩ := fold_few _ _ _ h
      rw [h1]
      refine ⟨?_, ?_, rfl, h2⟩
      · cases T with
        | mk o kids =>
          rw [VT.nodes_mk]
          have : kids.map VT.nodes = kids.map (fewT d) := List.map_congr_left fun t ht => (fewT_few d t (h2 t ht)).1
          rw [this]; rfl
      · cases T with
        | mk o kids =>
          rw [VT.depth_mk]
          have : (kids.map VT.depth).foldl max 0 ≤ d := foldl_max_le (Nat.zero_le _) fun x hx => by
            obtain ⟨t, ht, rfl⟩ := List.mem_map.1 hx
            exact (fewT_few d t (h2 t ht)).2.1
          omega
/-- few, so far in the list. -/
def fTo (d : Nat) (kids : List VT) (k : Nat) : Nat := (kids.take k).foldl (fewStep (fewT d)) 1
theorem fTo_zero (d : Nat) (kids : List VT) : fTo d kids 0 = 1 := by simp [fTo]
theorem fTo_next {d : Nat} {kids : List VT} {k : Nat} {t : VT} (h : kids[k]? = some t) (hn : fTo d kids k < 1000) : fTo d kids (k + 1) = fTo d kids k + fewT d t := by
  unfold fTo at *; rw [take_next h, List.foldl_append]; simp only [List.foldl_cons, List.foldl_nil]
  rw [fewStep, if_pos hn]
theorem fTo_all {d : Nat} {kids : List VT} : fTo d kids kids.length = kids.foldl (fewStep (fewT d)) 1 := by unfold fTo; rw [List.take_length]
theorem fTo_stop {d : Nat} {kids : List VT} {k : Nat} (h : 1000 ≤ fTo d kids k) : kids.foldl (fewStep (fewT d)) 1 = fTo d kids k := by
  have stay : ∀ (l : List VT) (n : Nat), 1000 ≤ n → l.foldl (fewStep (fewT d)) n = n := by
    intro l
    induction l with
    | nil => intro n _; rfl
    | cons t l ih => intro n hn; simp only [List.foldl_cons]; rw [fewStep, if_neg (by omega)]; exact ih n hn
  unfold fTo at *
  conv => lhs; rw [← List.take_append_drop k kids]
  rw [List.foldl_append, stay _ _ h]
theorem fTo_cap (d : Nat) (kids : List VT) (k : Nat) : fTo d kids k ≤ 1999 + 1000 * d := by
  have := fold_cap (fewT d) (1000 + 1000 * d) (kids.take k) (fun t _ => fewT_cap d t) 1 (by omega)
  unfold fTo; omega

/-- deeper: is the depth above a number? -/
def deepT : Nat → VT → Bool
  | 0, _ => true
  | n + 1, T => T.kids.any (deepT n)
theorem foldl_max_lt_iff (l : List Nat) : ∀ (a n : Nat), n < l.foldl max a ↔ n < a ∨ ∃ x ∈ l, n < x := by
  induction l with
  | nil => intro a n; simp
  | cons b l ih =>
    intro a n
    simp only [List.foldl_cons, ih, List.mem_cons]
    constructor
    · rintro (h | ⟨x, hx, h⟩)
      · rcases Nat.lt_or_ge n a with h1 | h1
        · exact .inl h1
        · exact .inr ⟨b, .inl rfl, by omega⟩
      · exact .inr ⟨x, .inr hx, h⟩
    · rintro (h | ⟨x, rfl | hx, h⟩)
      · exact .inl (by omega)
      · exact .inl (by omega)
      · exact .inr ⟨x, hx, h⟩
theorem deepT_iff : ∀ (n : Nat) (T : VT), deepT n T = decide (n < T.depth)
  | 0, T => by
    cases T with
    | mk o kids => rw [deepT, VT.depth_mk]; simp; omega
  | n + 1, T => by
    cases T with
    | mk o kids =>
      rw [deepT, VT.depth_mk, Bool.eq_iff_iff, List.any_eq_true, decide_eq_true_iff]
      have : n + 1 < 1 + (kids.map VT.depth).foldl max 0 ↔ n < (kids.map VT.depth).foldl max 0 := by omega
      rw [this, foldl_max_lt_iff]
      constructor
      · rintro ⟨t, ht, h⟩
        rw [deepT_iff n t, decide_eq_true_iff] at h
        exact .inr ⟨t.depth, List.mem_map.2 ⟨t, ht, rfl⟩, h⟩
      · rintro (h | ⟨x, hx, h⟩)
        · omega
        · obtain ⟨t, ht, rfl⟩ := List.mem_map.1 hx
          exact ⟨t, ht, by rw [deepT_iff n t]; simpa using h⟩

/-- has: is a value, or something in it, such? -/
def hasT (p : VT → Bool) : VT → Bool
  | .mk o kids => p (.mk o kids) || (kids.map fun k => hasT p k).any id
theorem hasT_mk (p : VT → Bool) (T : VT) : hasT p T = (p T || T.kids.any (hasT p)) := by
  cases T with
  | mk o kids => rw [hasT, List.any_map]; rfl
theorem hasT_false {p : VT → Bool} {T : VT} (h : hasT p T = false) : p T = false ∧ ∀ t ∈ T.kids, hasT p t = false := by
  rw [hasT_mk, Bool.or_eq_false_iff, List.any_eq_false] at h
  exact ⟨h.1, fun t ht => by simpa using h.2 t ht⟩
theorem hasT_congr {p q : VT → Bool} : ∀ (T : VT), (∀ t, p t = q t) → hasT p T = hasT q T := by
  intro T h
  have : p = q := funext h
  rw [this]
end Go.Proofs.YtfaaagmjmljhiaaGreatDoor
