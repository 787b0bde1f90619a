/-
  Numbers by digits of 32 bits, the least first: plain arithmetic, no Go. For every number.
-/
import Derived.RowKit
namespace Go.Proofs.YtjlgiejggcbgbaaGreatDoor

/-- The number of some digits of 32 bits, the least first. -/
def dval : List Nat → Nat
  | [] => 0
  | d :: l => d + 4294967296 * dval l
/-- The digits of a number, as many as it takes. -/
def digs (x : Nat) : List Nat := if h : x = 0 then [] else x % 4294967296 :: digs (x / 4294967296)
termination_by x
decreasing_by omega
def Sm (l : List Nat) : Prop := ∀ d ∈ l, d < 4294967296
theorem digs_zero : digs 0 = [] := by rw [digs]; simp
theorem digs_pos {x : Nat} (h : x ≠ 0) : digs x = x % 4294967296 :: digs (x / 4294967296) := by rw [digs]; simp [h]
theorem Sm.nil : Sm [] := fun _ h => by cases h
theorem Sm.cons {d : Nat} {l : List Nat} (hd : d < 4294967296) (h : Sm l) : Sm (d :: l) := fun x hx => by
  rcases List.mem_cons.1 hx with rfl | hx
  · exact hd
  · exact h x hx
theorem Sm.head {d : Nat} {l : List Nat} (h : Sm (d :: l)) : d < 4294967296 := h d (by simp)
theorem Sm.tail {d : Nat} {l : List Nat} (h : Sm (d :: l)) : Sm l := fun x hx => h x (by simp [hx])
theorem Sm.app {l m : List Nat} (h : Sm l) (k : Sm m) : Sm (l ++ m) := fun x hx => by
  rcases List.mem_append.1 hx with hx | hx
  · exact h x hx
  · exact k x hx
theorem Sm.one {d : Nat} (hd : d < 4294967296) : Sm [d] := Sm.cons hd Sm.nil
theorem Sm.get {l : List Nat} (h : Sm l) (i : Nat) : l.getD i 0 < 4294967296 := by
  rw [List.getD_eq_getElem?_getD]
  cases e : l[i]? with
  | none => simp
  | some d => exact h d (List.mem_of_getElem? e)
theorem Sm.set {l : List Nat} (h : Sm l) (i : Nat) {d : Nat} (hd : d < 4294967296) : Sm (l.set i d) := fun x hx => by
  rcases List.mem_or_eq_of_mem_set hx with hx | hx
  · exact h x hx
  · omega
theorem digs_sm (x : Nat) : Sm (digs x) := by
  induction x using Nat.strongRecOn with
  | ind x ih =>
    by_cases h : x = 0
    · subst h; rw [digs_zero]; exact Sm.nil
    · rw [digs_pos h]; exact Sm.cons (by omega) (ih _ (by omega))
theorem dval_digs (x : Nat) : dval (digs x) = x := by
  induction x using Nat.strongRecOn with
  | ind x ih =>
    by_cases h : x = 0
    · subst h; rw [digs_zero]; rfl
    · rw [digs_pos h, dval, ih _ (by omega)]; omega
theorem dval_app (l m : List Nat) : dval (l ++ m) = dval l + 2 ^ (32 * l.length) * dval m := by
  induction l with
  | nil => simp [dval]
  | cons d l ih =>
    rw [List.cons_append, dval, ih, dval, List.length_cons, show 32 * (l.length + 1) = 32 + 32 * l.length from by omega, Nat.pow_add, Nat.mul_add, ← Nat.mul_assoc, Nat.add_assoc]
theorem dval_lt {l : List Nat} (h : Sm l) : dval l < 2 ^ (32 * l.length) := by
  induction l with
  | nil => simp [dval]
  | cons d l ih =>
    have := ih h.tail
    have hd := h.head
    rw [dval, List.length_cons, show 32 * (l.length + 1) = 32 + 32 * l.length from by omega, Nat.pow_add]
    omega
theorem digs_len {x k : Nat} : (digs x).length ≤ k ↔ x < 2 ^ (32 * k) := by
  induction k generalizing x with
  | zero =>
    by_cases h : x = 0
    · subst h; simp [digs_zero]
    · rw [digs_pos h]; simp; omega
  | succ k ih =>
    by_cases h : x = 0
    · subst h; simp [digs_zero, Nat.two_pow_pos]
    · rw [digs_pos h, List.length_cons, Nat.add_le_add_iff_right, ih, show 32 * (k + 1) = 32 + 32 * k from by omega, Nat.pow_add]
      omega
theorem digs_get (x i : Nat) : (digs x).getD i 0 = x / 2 ^ (32 * i) % 4294967296 := by
  induction i generalizing x with
  | zero =>
    by_cases h : x = 0
    · subst h; simp [digs_zero]
    · rw [digs_pos h]; simp
  | succ i ih =>
    by_cases h : x = 0
    · subst h; simp [digs_zero]
    · rw [digs_pos h, List.getD_cons_succ, ih, show 32 * (i + 1) = 32 + 32 * i from by omega, Nat.pow_add, ← Nat.div_div_eq_div_mul]
theorem digs_lt_len {x i : Nat} (h : i < (digs x).length) : 2 ^ (32 * i) ≤ x := by
  have := (not_congr (digs_len (x := x) (k := i))).1 (by omega)
  omega
theorem digs_len_le {x : Nat} : x < 2 ^ (32 * (digs x).length) := digs_len.1 (Nat.le_refl _)

theorem dval_get {l : List Nat} (h : Sm l) (i : Nat) : dval l / 2 ^ (32 * i) % 4294967296 = l.getD i 0 := by
  induction i generalizing l with
  | zero =>
    cases l with
    | nil => simp [dval]
    | cons d l =>
      have := h.head
      simp only [dval, Nat.mul_zero, Nat.pow_zero, Nat.div_one, List.getD_cons_zero]
      omega
  | succ i ih =>
    cases l with
    | nil => simp [dval]
    | cons d l =>
      have hd := h.head
      rw [List.getD_cons_succ, ← ih h.tail, dval, show 32 * (i + 1) = 32 + 32 * i from by omega, Nat.pow_add, ← Nat.div_div_eq_div_mul]
      have : (d + 4294967296 * dval l) / 2 ^ 32 = dval l := by omega
      rw [this]
/-- What 'trim' leaves of some digits: as many from the front as it takes. -/
theorem trim_zero {l : List Nat} {d : Nat} (hd : d = 0) : dval (l ++ [d]) = dval l := by rw [dval_app, hd]; simp [dval]
theorem digs_of_last {l : List Nat} (h : Sm l) (hl : ∀ d, l.getLast? = some d → d ≠ 0) : digs (dval l) = l := by
  induction l with
  | nil => exact digs_zero
  | cons d l ih =>
    have hd := h.head
    have h0 : dval (d :: l) ≠ 0 := by
      cases l with
      | nil => have := hl d (by simp); simp [dval]; exact this
      | cons e l =>
        intro hz
        have hz2 : dval (e :: l) = 0 := by rw [dval] at hz; omega
        have := ih h.tail (fun x hx => hl x (by simpa using hx))
        rw [hz2, digs_zero] at this
        cases this
    have e1 : dval (d :: l) % 4294967296 = d := by rw [dval]; omega
    have e2 : dval (d :: l) / 4294967296 = dval l := by rw [dval]; omega
    rw [digs_pos h0, e1, e2, ih h.tail]
    intro x hx
    cases l with
    | nil => cases hx
    | cons e l => exact hl x (by simpa using hx)
/-- The round of trim's loop. -/
theorem trim_step {l : List Nat} {n : Nat} (hn : 0 < n) (hl : n ≤ l.length) (h0 : l.getD (n - 1) 0 = 0) : dval (l.take n) = dval (l.take (n - 1)) := by
  obtain ⟨m, rfl⟩ : ∃ m, n = m + 1 := ⟨n - 1, by omega⟩
  have e : l.take (m + 1) = l.take m ++ [l.getD m 0] := by
    rw [List.take_succ_eq_append_getElem (by omega)]
    congr 2
    rw [List.getD_eq_getElem?_getD, List.getElem?_eq_getElem (by omega)]; rfl
  rw [e, show m + 1 - 1 = m from rfl]
  rw [show m + 1 - 1 = m from rfl] at h0
  exact trim_zero h0
theorem trim_end {l : List Nat} {n : Nat} (h : Sm l) (hl : n ≤ l.length) (h0 : 0 < n → l.getD (n - 1) 0 ≠ 0) : l.take n = digs (dval (l.take n)) := by
  symm
  refine digs_of_last (fun x hx => h x (List.mem_of_mem_take hx)) ?_
  intro d hd
  by_cases hn : n = 0
  · subst hn; simp at hd
  · have := h0 (by omega)
    rw [List.getLast?_eq_getElem?, List.length_take, Nat.min_eq_left hl, List.getElem?_take] at hd
    rw [if_pos (by omega)] at hd
    rw [List.getD_eq_getElem?_getD, hd] at this
    exact this
theorem mod_step (x i : Nat) : x % 2 ^ (32 * (i + 1)) = x % 2 ^ (32 * i) + 2 ^ (32 * i) * (x / 2 ^ (32 * i) % 4294967296) := by
  rw [show 32 * (i + 1) = 32 * i + 32 from by omega, Nat.pow_add, Nat.mod_mul]
theorem pow_step (i : Nat) : 2 ^ (32 * (i + 1)) = 2 ^ (32 * i) * 4294967296 := by
  rw [show 32 * (i + 1) = 32 * i + 32 from by omega, Nat.pow_add]
/-- Add's round. -/
theorem add_step {x y i v c s : Nat} (h : v + 2 ^ (32 * i) * c = x % 2 ^ (32 * i) + y % 2 ^ (32 * i)) (hs : s = c + x / 2 ^ (32 * i) % 4294967296 + y / 2 ^ (32 * i) % 4294967296) :
    (v + 2 ^ (32 * i) * (s % 4294967296)) + 2 ^ (32 * (i + 1)) * (s / 4294967296) = x % 2 ^ (32 * (i + 1)) + y % 2 ^ (32 * (i + 1)) := by
  rw [mod_step, mod_step, pow_step, Nat.mul_assoc]
  have e : s = s % 4294967296 + 4294967296 * (s / 4294967296) := by omega
  have e2 : 2 ^ (32 * i) * s = 2 ^ (32 * i) * (s % 4294967296) + 2 ^ (32 * i) * (4294967296 * (s / 4294967296)) := by rw [← Nat.mul_add, ← e]
  rw [hs, Nat.mul_add, Nat.mul_add] at e2
  rw [← hs] at e2
  omega
theorem mod_full {x i : Nat} (h : x < 2 ^ (32 * i)) : x % 2 ^ (32 * i) = x := Nat.mod_eq_of_lt h
/-- Sub's round: the borrow is 0 or -1; b is what is borrowed. -/
theorem sub_step {x y i v b b' d : Nat} (h : v + y % 2 ^ (32 * i) = x % 2 ^ (32 * i) + 2 ^ (32 * i) * b) (hd : d + y / 2 ^ (32 * i) % 4294967296 + b = x / 2 ^ (32 * i) % 4294967296 + 4294967296 * b') :
    (v + 2 ^ (32 * i) * d) + y % 2 ^ (32 * (i + 1)) = x % 2 ^ (32 * (i + 1)) + 2 ^ (32 * (i + 1)) * b' := by
  rw [mod_step, mod_step, pow_step, Nat.mul_assoc]
  have e := congrArg (fun z => 2 ^ (32 * i) * z) hd
  simp only [Nat.mul_add] at e
  omega
theorem sub_end {x y n v b : Nat} (hyx : y ≤ x) (hx : x < 2 ^ (32 * n)) (hv : v < 2 ^ (32 * n)) (h : v + y % 2 ^ (32 * n) = x % 2 ^ (32 * n) + 2 ^ (32 * n) * b) : v = x - y := by
  rw [Nat.mod_eq_of_lt hx, Nat.mod_eq_of_lt (Nat.lt_of_le_of_lt hyx hx)] at h
  have : b = 0 := by
    rcases Nat.eq_zero_or_pos b with h0 | h0
    · exact h0
    · exfalso
      have : 2 ^ (32 * n) * 1 ≤ 2 ^ (32 * n) * b := Nat.mul_le_mul_left _ h0
      omega
  subst this
  omega
/-- Less' round, from the top: c is the rest, q the quotient of what is above. -/
theorem less_step {x d i c q : Nat} (hd : 0 < d) (hc : c = x / 2 ^ (32 * (i + 1)) % d) (hq : q = x / 2 ^ (32 * (i + 1)) / d) :
    x / 2 ^ (32 * i) % d = (c * 4294967296 + x / 2 ^ (32 * i) % 4294967296) % d ∧ x / 2 ^ (32 * i) / d = q * 4294967296 + (c * 4294967296 + x / 2 ^ (32 * i) % 4294967296) / d := by
  have e : x / 2 ^ (32 * i) = x / 2 ^ (32 * (i + 1)) * 4294967296 + x / 2 ^ (32 * i) % 4294967296 := by
    rw [pow_step, ← Nat.div_div_eq_div_mul]; omega
  have e3 := Nat.div_add_mod (x / 2 ^ (32 * (i + 1))) d
  rw [← hc, ← hq] at e3
  generalize x / 2 ^ (32 * i) % 4294967296 = r at *
  have e2 : x / 2 ^ (32 * i) = (c * 4294967296 + r) + d * (q * 4294967296) := by
    rw [e, ← e3, Nat.add_mul, Nat.mul_assoc]; omega
  rw [e2, Nat.add_mul_mod_self_left, Nat.add_mul_div_left _ _ hd]
  exact ⟨rfl, by omega⟩
theorem less_lt {x d i c : Nat} (hd : 0 < d) (hc : c < d) : (c * 4294967296 + x / 2 ^ (32 * i) % 4294967296) / d < 4294967296 := by
  rw [Nat.div_lt_iff_lt_mul hd]
  have : (c + 1) * 4294967296 ≤ d * 4294967296 := Nat.mul_le_mul_right _ hc
  omega
/-- Cmp: two numbers whose higher digits are the same. -/
theorem top_split (x i : Nat) : x / 2 ^ (32 * i) = x / 2 ^ (32 * (i + 1)) * 4294967296 + x / 2 ^ (32 * i) % 4294967296 := by
  rw [pow_step, ← Nat.div_div_eq_div_mul]; omega
theorem cmp_lt {x y i : Nat} (h : x / 2 ^ (32 * (i + 1)) = y / 2 ^ (32 * (i + 1))) (hl : x / 2 ^ (32 * i) % 4294967296 < y / 2 ^ (32 * i) % 4294967296) : x < y := by
  have e1 := top_split x i
  have e2 := top_split y i
  rw [h] at e1
  apply Decidable.byContradiction
  intro hn
  have := Nat.div_le_div_right (c := 2 ^ (32 * i)) (Nat.le_of_not_lt hn)
  omega
theorem cmp_eq {x y i : Nat} (h : x / 2 ^ (32 * (i + 1)) = y / 2 ^ (32 * (i + 1))) (hl : x / 2 ^ (32 * i) % 4294967296 = y / 2 ^ (32 * i) % 4294967296) : x / 2 ^ (32 * i) = y / 2 ^ (32 * i) := by
  have e1 := top_split x i
  have e2 := top_split y i
  omega
end Go.Proofs.YtjlgiejggcbgbaaGreatDoor
