/-
  DigMath RefBase RefA RefAdd RefSub RefMulMath RefOf RefMul RefSmall RefApi RefCmp RefNat RefBits RefPow RefShr RefParts, one behind the other: a claim holds at most 60 files.
-/
import Derived.RowKit
import Derived.Test.YtebfggiodhaahaaGreatDoorGA
import Derived.Laws.AppendOwn
import Derived.Deep.OwnRows
import Derived.Deep.AppendLies
import Derived.Lib.QuietBelow
import Derived.BigQuiet
import Derived.Deep.QuietTactic
import Derived.Test.YtebfggiodhaahaaGreatDoorGL
import Derived.BigRegion
import Derived.RegionTactic
import Derived.Test.YtebfggiodhaahaaGreatDoorGF
section
namespace Go.Proofs.YtebfggiodhaahaaGreatDoor

/-- The number of some digits of 32 bits, the least first. -/
def dval : List Nat → Nat
  | [] => 0
  | d :: l => d + 4294967296 * dval l
/-- The digits of a number, as many as it takes. -/
def digs (x : Nat) : List Nat := if h : x = 0 then [] else x % 4294967296 :: digs (x / 4294967296)
termination_by x
decreasing_by omega
def Sm (l : List Nat) : Prop := ∀ d ∈ l, d < 4294967296
theorem digs_zero : digs 0 = [] := by rw [digs]; simp
theorem digs_pos {x : Nat} (h : x ≠ 0) : digs x = x % 4294967296 :: digs (x / 4294967296) := by rw [digs]; simp [h]
theorem Sm.nil : Sm [] := fun _ h => by cases h
theorem Sm.cons {d : Nat} {l : List Nat} (hd : d < 4294967296) (h : Sm l) : Sm (d :: l) := fun x hx => by
  rcases List.mem_cons.1 hx with rfl | hx
  · exact hd
  · exact h x hx
theorem Sm.head {d : Nat} {l : List Nat} (h : Sm (d :: l)) : d < 4294967296 := h d (by simp)
theorem Sm.tail {d : Nat} {l : List Nat} (h : Sm (d :: l)) : Sm l := fun x hx => h x (by simp [hx])
theorem Sm.app {l m : List Nat} (h : Sm l) (k : Sm m) : Sm (l ++ m) := fun x hx => by
  rcases List.mem_append.1 hx with hx | hx
  · exact h x hx
  · exact k x hx
theorem Sm.one {d : Nat} (hd : d < 4294967296) : Sm [d] := Sm.cons hd Sm.nil
theorem Sm.set {l : List Nat} (h : Sm l) (i : Nat) {d : Nat} (hd : d < 4294967296) : Sm (l.set i d) := fun x hx => by
  rcases List.mem_or_eq_of_mem_set hx with hx | hx
  · exact h x hx
  · omega
theorem dval_app (l m : List Nat) : dval (l ++ m) = dval l + 2 ^ (32 * l.length) * dval m := by
  induction l with
  | nil => simp [dval]
  | cons d l ih =>
    rw [List.cons_append, dval, ih, dval, List.length_cons, show 32 * (l.length + 1) = 32 + 32 * l.length from by omega, Nat.pow_add, Nat.mul_add, ← Nat.mul_assoc, Nat.add_assoc]
theorem dval_lt {l : List Nat} (h : Sm l) : dval l < 2 ^ (32 * l.length) := by
  induction l with
  | nil => simp [dval]
  | cons d l ih =>
    have := ih h.tail
    have hd := h.head
    rw [dval, List.length_cons, show 32 * (l.length + 1) = 32 + 32 * l.length from by omega, Nat.pow_add]
    omega
theorem digs_len {x k : Nat} : (digs x).length ≤ k ↔ x < 2 ^ (32 * k) := by
  induction k generalizing x with
  | zero =>
    by_cases h : x = 0
    · subst h; simp [digs_zero]
    · rw [digs_pos h]; simp; omega
  | succ k ih =>
    by_cases h : x = 0
    · subst h; simp [digs_zero, Nat.two_pow_pos]
    · rw [digs_pos h, List.length_cons, Nat.add_le_add_iff_right, ih, show 32 * (k + 1) = 32 + 32 * k from by omega, Nat.pow_add]
      omega
theorem dval_get {l : List Nat} (h : Sm l) (i : Nat) : dval l / 2 ^ (32 * i) % 4294967296 = l.getD i 0 := by
  induction i generalizing l with
  | zero =>
    cases l with
    | nil => simp [dval]
    | cons d l =>
      have := h.head
      simp only [dval, Nat.mul_zero, Nat.pow_zero, Nat.div_one, List.getD_cons_zero]
      omega
  | succ i ih =>
    cases l with
    | nil => simp [dval]
    | cons d l =>
      have hd := h.head
      rw [List.getD_cons_succ, ← ih h.tail, dval, show 32 * (i + 1) = 32 + 32 * i from by omega, Nat.pow_add, ← Nat.div_div_eq_div_mul]
      have : (d + 4294967296 * dval l) / 2 ^ 32 = dval l := by omega
      rw [this]
/-- What 'trim' leaves of some digits: as many from the front as it takes. -/
theorem trim_zero {l : List Nat} {d : Nat} (hd : d = 0) : dval (l ++ [d]) = dval l := by rw [dval_app, hd]; simp [dval]
theorem mod_step (x i : Nat) : x % 2 ^ (32 * (i + 1)) = x % 2 ^ (32 * i) + 2 ^ (32 * i) * (x / 2 ^ (32 * i) % 4294967296) := by
  rw [show 32 * (i + 1) = 32 * i + 32 from by omega, Nat.pow_add, Nat.mod_mul]
theorem pow_step (i : Nat) : 2 ^ (32 * (i + 1)) = 2 ^ (32 * i) * 4294967296 := by
  rw [show 32 * (i + 1) = 32 * i + 32 from by omega, Nat.pow_add]
/-- Add's round. -/
theorem add_step {x y i v c s : Nat} (h : v + 2 ^ (32 * i) * c = x % 2 ^ (32 * i) + y % 2 ^ (32 * i)) (hs : s = c + x / 2 ^ (32 * i) % 4294967296 + y / 2 ^ (32 * i) % 4294967296) :
    (v + 2 ^ (32 * i) * (s % 4294967296)) + 2 ^ (32 * (i + 1)) * (s / 4294967296) = x % 2 ^ (32 * (i + 1)) + y % 2 ^ (32 * (i + 1)) := by
  rw [mod_step, mod_step, pow_step, Nat.mul_assoc]
  have e : s = s % 4294967296 + 4294967296 * (s / 4294967296) := by omega
  have e2 : 2 ^ (32 * i) * s = 2 ^ (32 * i) * (s % 4294967296) + 2 ^ (32 * i) * (4294967296 * (s / 4294967296)) := by rw [← Nat.mul_add, ← e]
  rw [hs, Nat.mul_add, Nat.mul_add] at e2
  rw [← hs] at e2
  omega
/-- Sub's round: the borrow is 0 or -1; b is what is borrowed. -/
theorem sub_step {x y i v b b' d : Nat} (h : v + y % 2 ^ (32 * i) = x % 2 ^ (32 * i) + 2 ^ (32 * i) * b) (hd : d + y / 2 ^ (32 * i) % 4294967296 + b = x / 2 ^ (32 * i) % 4294967296 + 4294967296 * b') :
    (v + 2 ^ (32 * i) * d) + y % 2 ^ (32 * (i + 1)) = x % 2 ^ (32 * (i + 1)) + 2 ^ (32 * (i + 1)) * b' := by
  rw [mod_step, mod_step, pow_step, Nat.mul_assoc]
  have e := congrArg (fun z => 2 ^ (32 * i) * z) hd
  simp only [Nat.mul_add] at e
  omega
theorem sub_end {x y n v b : Nat} (hyx : y ≤ x) (hx : x < 2 ^ (32 * n)) (hv : v < 2 ^ (32 * n)) (h : v + y % 2 ^ (32 * n) = x % 2 ^ (32 * n) + 2 ^ (32 * n) * b) : v = x - y := by
  rw [Nat.mod_eq_of_lt hx, Nat.mod_eq_of_lt (Nat.lt_of_le_of_lt hyx hx)] at h
  have : b = 0 := by
    rcases Nat.eq_zero_or_pos b with h0 | h0
    · exact h0
    · exfalso
      have : 2 ^ (32 * n) * 1 ≤ 2 ^ (32 * n) * b := Nat.mul_le_mul_left _ h0
      omega
  subst this
  omega
/-- Less' round, from the top: c is the rest, q the quotient of what is above. -/
theorem less_step {x d i c q : Nat} (hd : 0 < d) (hc : c = x / 2 ^ (32 * (i + 1)) % d) (hq : q = x / 2 ^ (32 * (i + 1)) / d) :
    x / 2 ^ (32 * i) % d = (c * 4294967296 + x / 2 ^ (32 * i) % 4294967296) % d ∧ x / 2 ^ (32 * i) / d = q * 4294967296 + (c * 4294967296 + x / 2 ^ (32 * i) % 4294967296) / d := by
  have e : x / 2 ^ (32 * i) = x / 2 ^ (32 * (i + 1)) * 4294967296 + x / 2 ^ (32 * i) % 4294967296 := by
    rw [pow_step, ← Nat.div_div_eq_div_mul]; omega
  have e3 := Nat.div_add_mod (x / 2 ^ (32 * (i + 1))) d
  rw [← hc, ← hq] at e3
  generalize x / 2 ^ (32 * i) % 4294967296 = r at *
  have e2 : x / 2 ^ (32 * i) = (c * 4294967296 + r) + d * (q * 4294967296) := by
    rw [e, ← e3, Nat.add_mul, Nat.mul_assoc]; omega
  rw [e2, Nat.add_mul_mod_self_left, Nat.add_mul_div_left _ _ hd]
  exact ⟨rfl, by omega⟩
theorem less_lt {x d i c : Nat} (hd : 0 < d) (hc : c < d) : (c * 4294967296 + x / 2 ^ (32 * i) % 4294967296) / d < 4294967296 := by
  rw [Nat.div_lt_iff_lt_mul hd]
  have : (c + 1) * 4294967296 ≤ d * 4294967296 := Nat.mul_le_mul_right _ hc
  omega
end Go.Proofs.YtebfggiodhaahaaGreatDoor
end
section
namespace Go.Proofs.YtebfggiodhaahaaGreatDoor
open Go.RowKit Go.Shelf

/-- The cells from a place on hold these digits. -/
def Cs (W : World) (b off : Nat) (l : List Nat) : Prop := ∀ i : Nat, i < l.length → W.cell? ⟨b, off + i, none⟩ = some (.int .u32 ((l.getD i 0 : Nat) : Int))
/-- A slice value that reads as these digits. -/
def Rd (W : World) (s : Value) (l : List Nat) : Prop :=
  (l = [] ∧ ∃ (a : Option Addr) (c : Nat), s = .slice a 0 c) ∨ (∃ b off c : Nat, s = .slice (some ⟨b, off, none⟩) l.length c ∧ (l.length ≤ c ∧ c ≤ 9223372036854775807) ∧ b < W.heap.size ∧ Cs W b off l)
theorem Cs.keep {W W' : World} {b off : Nat} {l : List Nat} (hb : Below W.heap.size W W') (hlt : b < W.heap.size) (h : Cs W b off l) : Cs W' b off l := fun i hi => by
  rw [← h i hi]; exact hb.cell (p := ⟨b, off + i, none⟩) hlt
theorem Rd.keep {W W' : World} {s : Value} {l : List Nat} (hb : Below W.heap.size W W') (h : Rd W s l) : Rd W' s l := by
  rcases h with h | ⟨b, off, c, e, hc, hlt, hcs⟩
  · exact .inl h
  · exact .inr ⟨b, off, c, e, hc, Nat.lt_of_lt_of_le hlt hb.size, hcs.keep hb hlt⟩

end Go.Proofs.YtebfggiodhaahaaGreatDoor
end
section
namespace Go.Proofs.YtebfggiodhaahaaGreatDoor
open Go.RowKit Go.Shelf

/-- A slice value that reads as a number's digits, as many as it takes. -/
def DR (W : World) (s : Value) (x : Nat) : Prop := Rd W s (digs x)
theorem DR.keep {W W' : World} {s : Value} {x : Nat} (hb : Below W.heap.size W W') (h : DR W s x) : DR W' s x := Rd.keep hb h
theorem DR.form {W : World} {s : Value} {x : Nat} (h : DR W s x) : ∃ (A : Option Addr) (c : Nat), s = .slice A (digs x).length c ∧ (0 < (digs x).length → (digs x).length ≤ c) := by
  rcases h with ⟨h, A, c, e⟩ | ⟨b, off, c, e, hc, _⟩
  · exact ⟨A, c, by rw [h]; exact e, by rw [h]; intro h; cases h⟩
  · exact ⟨_, c, e, fun _ => hc.1⟩
end Go.Proofs.YtebfggiodhaahaaGreatDoor
end
section
namespace Go.Proofs.YtebfggiodhaahaaGreatDoor
open Go.RowKit Go.Shelf

abbrev U32s (l : List Nat) : List Value := l.map fun d => Value.int .u32 ((d : Nat) : Int)
/-- What holds at the head of Add's loop. -/
def AddInv (x y k cc : Nat) (O : List Nat) : Prop := O.length = k ∧ Sm O ∧ cc ≤ 1 ∧ dval O + 2 ^ (32 * k) * cc = x % 2 ^ (32 * k) + y % 2 ^ (32 * k)
theorem AddInv.zero (x y : Nat) : AddInv x y 0 0 [] := ⟨rfl, Sm.nil, by omega, by simp [dval, Nat.mod_one]⟩
theorem AddInv.next {x y k cc : Nat} {O : List Nat} (h : AddInv x y k cc O) {a b s : Nat} (ha : a = x / 2 ^ (32 * k) % 4294967296) (hb : b = y / 2 ^ (32 * k) % 4294967296) (hs : s = cc + a + b) :
    AddInv x y (k + 1) (s / 4294967296) (O ++ [s % 4294967296]) := by
  obtain ⟨h1, h2, h3, h4⟩ := h
  refine ⟨by simp [h1], h2.app (Sm.one (by omega)), by omega, ?_⟩
  rw [dval_app, h1]
  have := add_step (v := dval O) (s := s) h4 (by rw [hs, ha, hb])
  simp only [dval]
  rw [Nat.mul_zero, Nat.add_zero]
  exact this
theorem AddInv.stop {x y k : Nat} {O : List Nat} (h : AddInv x y k 0 O) (hx : (digs x).length ≤ k) (hy : (digs y).length ≤ k) : dval O = x + y := by
  obtain ⟨_, _, _, h4⟩ := h
  rw [Nat.mod_eq_of_lt (digs_len.1 hx), Nat.mod_eq_of_lt (digs_len.1 hy)] at h4
  omega
/-- One digit more than the longer one is enough. -/
theorem AddInv.last {x y k cc : Nat} {O : List Nat} (h : AddInv x y (k + 1) cc O) (hx : (digs x).length ≤ k) (hy : (digs y).length ≤ k) : cc = 0 := by
  obtain ⟨_, _, h3, h4⟩ := h
  have e1 := digs_len.1 hx
  have e2 := digs_len.1 hy
  rw [Nat.mod_eq_of_lt (digs_len.1 (Nat.le_succ_of_le hx)), Nat.mod_eq_of_lt (digs_len.1 (Nat.le_succ_of_le hy)), pow_step] at h4
  rcases Nat.eq_zero_or_pos cc with h0 | h0
  · exact h0
  · exfalso
    have : 2 ^ (32 * k) * 4294967296 * 1 ≤ 2 ^ (32 * k) * 4294967296 * cc := Nat.mul_le_mul_left _ h0
    omega

end Go.Proofs.YtebfggiodhaahaaGreatDoor
end
section
namespace Go.Proofs.YtebfggiodhaahaaGreatDoor
open Go.RowKit Go.Shelf

/-- What holds at the head of Sub's loop: b is what is borrowed. -/
def SubInv (x y k b : Nat) (O : List Nat) : Prop := O.length = k ∧ Sm O ∧ b ≤ 1 ∧ dval O + y % 2 ^ (32 * k) = x % 2 ^ (32 * k) + 2 ^ (32 * k) * b
theorem SubInv.zero (x y : Nat) : SubInv x y 0 0 [] := ⟨rfl, Sm.nil, by omega, by simp [dval, Nat.mod_one]⟩
theorem SubInv.next {x y k b : Nat} {O : List Nat} (h : SubInv x y k b O) {p q d b' : Nat} (hp : p = x / 2 ^ (32 * k) % 4294967296) (hq : q = y / 2 ^ (32 * k) % 4294967296) (hd : d < 4294967296) (hb : b' ≤ 1) (e : d + q + b = p + 4294967296 * b') :
    SubInv x y (k + 1) b' (O ++ [d]) := by
  obtain ⟨h1, h2, h3, h4⟩ := h
  refine ⟨by simp [h1], h2.app (Sm.one hd), hb, ?_⟩
  rw [dval_app, h1]
  have := sub_step (v := dval O) (d := d) (b' := b') h4 (by rw [← hp, ← hq]; exact e)
  simp only [dval]
  rw [Nat.mul_zero, Nat.add_zero]
  exact this
theorem SubInv.stop {x y k b : Nat} {O : List Nat} (h : SubInv x y k b O) (hx : (digs x).length ≤ k) (hyx : y ≤ x) : dval O = x - y := by
  obtain ⟨h1, h2, _, h4⟩ := h
  exact sub_end hyx (digs_len.1 hx) (by rw [← h1]; exact dval_lt h2) h4

end Go.Proofs.YtebfggiodhaahaaGreatDoor
end
section
namespace Go.Proofs.YtebfggiodhaahaaGreatDoor
open Go.RowKit Go.Shelf

/-- Block g is just these digits. -/
def Dk (W : World) (g : Nat) (O : List Nat) : Prop := W.heap[g]? = some (.cells (U32s O).toArray 117 (0, 0))
theorem Dk.lt {W : World} {g : Nat} {O : List Nat} (h : Dk W g O) : g < W.heap.size := by
  rcases Nat.lt_or_ge g W.heap.size with hlt | hge
  · exact hlt
  · unfold Dk at h; rw [Array.getElem?_eq_none hge] at h; cases h
theorem U32s_at {O : List Nat} {i : Nat} (hi : i < O.length) : (U32s O)[i]? = some (.int .u32 ((O.getD i 0 : Nat) : Int)) := by
  unfold U32s
  rw [List.getElem?_map, List.getD_eq_getElem?_getD, List.getElem?_eq_getElem hi]; rfl
theorem Dk.cell {W : World} {g : Nat} {O : List Nat} (h : Dk W g O) {i : Nat} (hi : i < O.length) : W.cell? ⟨g, i, none⟩ = some (.int .u32 ((O.getD i 0 : Nat) : Int)) := by
  rw [cell_of_row W g i _ _ _ h, ← U32s_at hi]
  simp
theorem Dk.free {W : World} {g : Nat} {O : List Nat} (h : Dk W g O) (i : Nat) : W.frozen? ⟨g, i, none⟩ = false := frozen_of_row W g i _ _ h
theorem Dk.keep {W W' : World} {g : Nat} {O : List Nat} (hb : Below W.heap.size W W') (h : Dk W g O) : Dk W' g O := (hb.block g h.lt).trans h
theorem Dk.set {W : World} {g : Nat} {O : List Nat} (h : Dk W g O) (i d : Nat) (z : Int) (e : (d : Int) = z) : Dk (W.setCell ⟨g, i, none⟩ (.int .u32 z)) g (O.set i d) := by
  unfold Dk at *
  rw [heap_setCell_same W g i _ _ _ h]
  congr 2
  rw [← e]
  apply Array.ext'
  simp [U32s, List.map_set]
theorem Dk.rd {W : World} {g : Nat} {O : List Nat} (h : Dk W g O) (hl : O.length ≤ 9223372036854775807) : Rd W (.slice (some ⟨g, 0, none⟩) O.length O.length) O :=
  .inr ⟨g, 0, O.length, rfl, ⟨Nat.le_refl _, hl⟩, h.lt, fun i hi => by rw [Nat.zero_add]; exact h.cell hi⟩
theorem Dk.new (W : World) (O : List Nat) : Dk (W.alloc (.cells (U32s O).toArray 117)) W.heap.size O := heap_alloc_new W _
theorem Sm.zeros (N : Nat) : Sm (List.replicate N 0) := fun d hd => by rw [List.eq_of_mem_replicate hd]; decide
theorem dval_zeros (N : Nat) : dval (List.replicate N 0) = 0 := by
  induction N with
  | zero => rfl
  | succ N ih => rw [List.replicate_succ, dval, ih]
theorem dval_set (l : List Nat) (p d : Nat) (h : p < l.length) : dval (l.set p d) + 2 ^ (32 * p) * l.getD p 0 = dval l + 2 ^ (32 * p) * d := by
  induction l generalizing p with
  | nil => cases h
  | cons e l ih =>
    cases p with
    | zero => simp only [List.set_cons_zero, dval, List.getD_cons_zero, Nat.mul_zero, Nat.pow_zero, Nat.one_mul]; omega
    | succ p =>
      have := ih p (by simpa using h)
      rw [List.set_cons_succ, dval, dval, List.getD_cons_succ, show 32 * (p + 1) = 32 + 32 * p from by omega, Nat.pow_add, Nat.mul_assoc, Nat.mul_assoc]
      have e2 : (2 : Nat) ^ 32 = 4294967296 := by decide
      rw [e2]
      omega
theorem dval_ge (l : List Nat) (p : Nat) : 2 ^ (32 * p) * l.getD p 0 ≤ dval l := by
  induction l generalizing p with
  | nil => simp
  | cons e l ih =>
    cases p with
    | zero => simp only [dval, List.getD_cons_zero, Nat.mul_zero, Nat.pow_zero, Nat.one_mul]; omega
    | succ p =>
      have := ih p
      rw [dval, List.getD_cons_succ, show 32 * (p + 1) = 32 + 32 * p from by omega, Nat.pow_add, Nat.mul_assoc]
      have e2 : (2 : Nat) ^ 32 = 4294967296 := by decide
      rw [e2]
      omega
/-- What holds at the head of the outer loop, of the inner one. -/
def MulOut (x y N i : Nat) (O : List Nat) : Prop := O.length = N ∧ Sm O ∧ dval O = (x % 2 ^ (32 * i)) * y
def MulIn (x y N i j c : Nat) (O : List Nat) : Prop :=
  O.length = N ∧ Sm O ∧ c < 4294967296 ∧ dval O + 2 ^ (32 * (i + j)) * c = (x % 2 ^ (32 * i)) * y + 2 ^ (32 * i) * ((x / 2 ^ (32 * i) % 4294967296) * (y % 2 ^ (32 * j)))
theorem MulOut.zero (x y N : Nat) : MulOut x y N 0 (List.replicate N 0) := ⟨by simp, Sm.zeros N, by rw [dval_zeros]; simp [Nat.mod_one]⟩
theorem MulOut.into {x y N i : Nat} {O : List Nat} (h : MulOut x y N i O) : MulIn x y N i 0 0 O := by
  obtain ⟨h1, h2, h3⟩ := h
  exact ⟨h1, h2, by omega, by rw [h3]; simp [Nat.mod_one]⟩
theorem MulIn.next {x y N i j c : Nat} {O : List Nat} (h : MulIn x y N i j c O) (hp : i + j < N) {o a b s : Nat} (ho : o = O.getD (i + j) 0) (ha : a = x / 2 ^ (32 * i) % 4294967296) (hb : b = y / 2 ^ (32 * j) % 4294967296) (hs : s = c + o + a * b) (hs2 : s < 18446744073709551616) :
    MulIn x y N i (j + 1) (s / 4294967296) (O.set (i + j) (s % 4294967296)) := by
  obtain ⟨h1, h2, h3, h4⟩ := h
  refine ⟨by simp [h1], h2.set _ (by omega), by omega, ?_⟩
  have e := dval_set O (i + j) (s % 4294967296) (by omega)
  rw [← ho] at e
  rw [mod_step y j, ← hb, show i + (j + 1) = (i + j) + 1 from by omega, pow_step, Nat.mul_add ( x / 2 ^ (32 * i) % 4294967296), Nat.mul_add (2 ^ (32 * i))]
  rw [← ha] at h4 ⊢
  have e3 : 2 ^ (32 * i) * (a * (2 ^ (32 * j) * b)) = 2 ^ (32 * (i + j)) * (a * b) := by
    rw [Nat.mul_left_comm a, ← Nat.mul_assoc, ← Nat.pow_add, ← Nat.mul_add]
  rw [e3]
  have e4 : 2 ^ (32 * (i + j)) * s = 2 ^ (32 * (i + j)) * (s % 4294967296) + 2 ^ (32 * (i + j)) * 4294967296 * (s / 4294967296) := by
    rw [Nat.mul_assoc, ← Nat.mul_add]
    congr 1
    omega
  have e5 : 2 ^ (32 * (i + j)) * s = 2 ^ (32 * (i + j)) * c + 2 ^ (32 * (i + j)) * o + 2 ^ (32 * (i + j)) * (a * b) := by
    rw [hs, Nat.mul_add, Nat.mul_add]
  omega
theorem MulIn.stop {x y N i j : Nat} {O : List Nat} (h : MulIn x y N i j 0 O) (hy : (digs y).length ≤ j) : MulOut x y N (i + 1) O := by
  obtain ⟨h1, h2, h3, h4⟩ := h
  refine ⟨h1, h2, ?_⟩
  rw [Nat.mul_zero, Nat.add_zero, Nat.mod_eq_of_lt (digs_len.1 hy)] at h4
  rw [h4, mod_step, Nat.add_mul, Nat.mul_assoc]
/-- Behind the last digit of the second number nothing is carried on. -/
theorem MulIn.last {x y N i j c : Nat} {O : List Nat} (h : MulIn x y N i j c O) (hy : (digs y).length ≤ j) : c + O.getD (i + j) 0 < 4294967296 := by
  obtain ⟨h1, h2, h3, h4⟩ := h
  rw [Nat.mod_eq_of_lt (digs_len.1 hy), ← Nat.mul_assoc, ← Nat.add_mul, ← mod_step] at h4
  have g := dval_ge O (i + j)
  have hx : x % 2 ^ (32 * (i + 1)) < 2 ^ (32 * (i + 1)) := Nat.mod_lt _ (Nat.two_pow_pos _)
  have hyl := digs_len.1 hy
  have ht : x % 2 ^ (32 * (i + 1)) * y < 2 ^ (32 * (i + j)) * 4294967296 := by
    have e : 2 ^ (32 * (i + j)) * 4294967296 = 2 ^ (32 * (i + 1)) * 2 ^ (32 * j) := by
      rw [show (4294967296 : Nat) = 2 ^ 32 from by decide, ← Nat.pow_add, ← Nat.pow_add]; congr 1; omega
    rw [e]
    rcases Nat.eq_zero_or_pos y with h0 | h0
    · rw [h0, Nat.mul_zero]; exact Nat.mul_pos (Nat.two_pow_pos _) (Nat.two_pow_pos _)
    · exact Nat.mul_lt_mul'' hx hyl
  have hq : 2 ^ (32 * (i + j)) * (c + O.getD (i + j) 0) < 2 ^ (32 * (i + j)) * 4294967296 := by rw [Nat.mul_add]; omega
  exact Nat.lt_of_mul_lt_mul_left hq
theorem MulOut.stop {x y N i : Nat} {O : List Nat} (h : MulOut x y N i O) (hx : (digs x).length ≤ i) : dval O = x * y := by
  rw [h.2.2, Nat.mod_eq_of_lt (digs_len.1 hx)]
end Go.Proofs.YtebfggiodhaahaaGreatDoor
end
section
namespace Go.Proofs.YtebfggiodhaahaaGreatDoor
open Go.RowKit Go.Shelf

/-- What holds at the head of Of's loop. -/
def OfInv (x k : Nat) (O : List Nat) : Prop := O.length = 2 * k ∧ Sm O ∧ dval O = x % 2 ^ (64 * k)
theorem OfInv.zero (x : Nat) : OfInv x 0 [] := ⟨rfl, Sm.nil, by simp [dval, Nat.mod_one]⟩
theorem OfInv.next {x k : Nat} {O : List Nat} (h : OfInv x k O) {a : Nat} (ha : a = x / 2 ^ (64 * k) % 18446744073709551616) : OfInv x (k + 1) (O ++ [a % 4294967296, a / 4294967296]) := by
  obtain ⟨h1, h2, h3⟩ := h
  have ha1 : a < 18446744073709551616 := by omega
  refine ⟨by simp [h1]; omega, h2.app (Sm.cons (by omega) (Sm.one (by omega))), ?_⟩
  rw [dval_app, h1, h3]
  have e : dval [a % 4294967296, a / 4294967296] = a := by simp only [dval]; omega
  rw [e, show 64 * (k + 1) = 64 * k + 64 from by omega, Nat.pow_add, Nat.mod_mul, show 32 * (2 * k) = 64 * k from by omega, show (2 : Nat) ^ 64 = 18446744073709551616 from by decide, ← ha]
theorem Row4.at {W : World} {b x : Nat} (h : Row4 W b (.int .u64 (lb 0 x)) (.int .u64 (lb 1 x)) (.int .u64 (lb 2 x)) (.int .u64 (lb 3 x))) (k : Nat) (hk : k < 4) : W.cell? ⟨b, k, none⟩ = some (.int .u64 ((x / 2 ^ (64 * k) % 18446744073709551616 : Nat) : Int)) := by
  have e : lb k x = ((x / 2 ^ (64 * k) % 18446744073709551616 : Nat) : Int) := by unfold lb; rfl
  rw [← e]
  have : k = 0 ∨ k = 1 ∨ k = 2 ∨ k = 3 := by omega
  rcases this with rfl | rfl | rfl | rfl
  · exact h.four.1
  · exact h.four.2.1
  · exact h.four.2.2.1
  · exact h.four.2.2.2
theorem Row4.grown {W W' : World} {b : Nat} {v0 v1 v2 v3 : Value} {row : Option Nat} (h : Row4 W b v0 v1 v2 v3) (hg : W.grownBy W' row) (hne : some b ≠ row) : Row4 W' b v0 v1 v2 v3 := by
  have := h.lt
  unfold Row4 at *
  rw [← h]
  exact hg.block b this hne

end Go.Proofs.YtebfggiodhaahaaGreatDoor
end
section
namespace Go.Proofs.YtebfggiodhaahaaGreatDoor
open Go.RowKit Go.Shelf
open Go.Sort (grow)

end Go.Proofs.YtebfggiodhaahaaGreatDoor
end
section
namespace Go.Proofs.YtebfggiodhaahaaGreatDoor
open Go.RowKit Go.Shelf

end Go.Proofs.YtebfggiodhaahaaGreatDoor
end
section
namespace Go.Proofs.YtebfggiodhaahaaGreatDoor
open Go.RowKit Go.Shelf

end Go.Proofs.YtebfggiodhaahaaGreatDoor
end
section
namespace Go.Proofs.YtebfggiodhaahaaGreatDoor
open Go.RowKit Go.Shelf
open Go.Sort (grow)

/-- How two numbers stand to each other. -/
def rcv (x y : Nat) : Int := if x < y then -1 else if y < x then 1 else 0
end Go.Proofs.YtebfggiodhaahaaGreatDoor
end
section
namespace Go.Proofs.YtebfggiodhaahaaGreatDoor
open Go.RowKit Go.Shelf

/-- A number's four words lie in a block. -/
def RowN (W : World) (g z : Nat) : Prop := Row4 W g (.int .u64 (lb 0 z)) (.int .u64 (lb 1 z)) (.int .u64 (lb 2 z)) (.int .u64 (lb 3 z))
theorem lb_nat (i z : Nat) : lb i z = ((z / 2 ^ (64 * i) % 18446744073709551616 : Nat) : Int) := by unfold lb; rfl
theorem word_same {x k i : Nat} (hi : i ≠ k / 2) : x % 2 ^ (32 * (k + 1)) / 2 ^ (64 * i) % 18446744073709551616 = x % 2 ^ (32 * k) / 2 ^ (64 * i) % 18446744073709551616 := by
  rcases Nat.lt_or_ge i (k / 2) with h | h
  · rw [mod_step]
    generalize x / 2 ^ (32 * k) % 4294967296 = d
    have e : 2 ^ (32 * k) * d = 2 ^ (64 * i) * (18446744073709551616 * (2 ^ (32 * k - 64 * i - 64) * d)) := by
      rw [show (18446744073709551616 : Nat) = 2 ^ 64 from by decide, ← Nat.mul_assoc, ← Nat.mul_assoc, ← Nat.pow_add, ← Nat.pow_add]
      congr 2
      omega
    rw [e, Nat.add_mul_div_left _ _ (Nat.two_pow_pos _), Nat.add_mul_mod_self_left]
  · have h1 : x % 2 ^ (32 * (k + 1)) < 2 ^ (64 * i) := Nat.lt_of_lt_of_le (Nat.mod_lt _ (Nat.two_pow_pos _)) (Nat.pow_le_pow_right (by decide) (by omega))
    have h2 : x % 2 ^ (32 * k) < 2 ^ (64 * i) := Nat.lt_of_lt_of_le (Nat.mod_lt _ (Nat.two_pow_pos _)) (Nat.pow_le_pow_right (by decide) (by omega))
    rw [Nat.div_eq_of_lt h1, Nat.div_eq_of_lt h2]
theorem RowN.set {W : World} {g x k : Nat} (h : RowN W g (x % 2 ^ (32 * k))) (hk : k < 8) (z : Int) (e : z = lb (k / 2) (x % 2 ^ (32 * (k + 1)))) : RowN (W.setCell ⟨g, k / 2, none⟩ (.int .u64 z)) g (x % 2 ^ (32 * (k + 1))) := by
  have hs : ∀ i, i ≠ k / 2 → lb i (x % 2 ^ (32 * k)) = lb i (x % 2 ^ (32 * (k + 1))) := fun i hi => by rw [lb_nat, lb_nat, word_same hi]
  unfold RowN Row4 at *
  rw [heap_setCell_same W g (k / 2) _ _ _ h, e]
  have hq : k / 2 = 0 ∨ k / 2 = 1 ∨ k / 2 = 2 ∨ k / 2 = 3 := by omega
  rcases hq with hq | hq | hq | hq
  · rw [hq, hs 1 (by omega), hs 2 (by omega), hs 3 (by omega)]; rfl
  · rw [hq, hs 0 (by omega), hs 2 (by omega), hs 3 (by omega)]; rfl
  · rw [hq, hs 0 (by omega), hs 1 (by omega), hs 3 (by omega)]; rfl
  · rw [hq, hs 0 (by omega), hs 1 (by omega), hs 2 (by omega)]; rfl
theorem RowN.free {W : World} {g z : Nat} (h : RowN W g z) (i : Nat) : W.frozen? ⟨g, i, none⟩ = false := frozen_of_row W g i _ _ h
theorem RowN.zero (W : World) (g : Nat) (h : Row4 W g (.int .u64 0) (.int .u64 0) (.int .u64 0) (.int .u64 0)) : RowN W g 0 := by
  unfold RowN
  rw [lb_zero, lb_zero, lb_zero, lb_zero]
  exact h

end Go.Proofs.YtebfggiodhaahaaGreatDoor
end
section
namespace Go.Proofs.YtebfggiodhaahaaGreatDoor
open Go.RowKit Go.Shelf

/-- A bit of a number; none at a place below 0. -/
def bitv (x : Nat) (i : Int) : Bool := decide (0 ≤ i) && x.testBit i.toNat
end Go.Proofs.YtebfggiodhaahaaGreatDoor
end
section
namespace Go.Proofs.YtebfggiodhaahaaGreatDoor
open Go.RowKit Go.Shelf

end Go.Proofs.YtebfggiodhaahaaGreatDoor
end
section
namespace Go.Proofs.YtebfggiodhaahaaGreatDoor
open Go.RowKit Go.Shelf

/-- What holds at the head of Shift's loop, t places on. -/
def ShrInv (y t : Nat) (O : List Nat) : Prop := O.length = (t + 31) / 32 ∧ Sm O ∧ dval O = y % 2 ^ t
theorem ShrInv.zero (y : Nat) : ShrInv y 0 [] := ⟨rfl, Sm.nil, by simp [dval, Nat.mod_one]⟩
/-- A digit more, where one begins. -/
theorem ShrInv.more {y t : Nat} {O : List Nat} (h : ShrInv y t O) : (O ++ [0]).length = O.length + 1 ∧ Sm (O ++ [0]) ∧ dval (O ++ [0]) = y % 2 ^ t :=
  ⟨by simp, h.2.1.app (Sm.one (by decide)), by rw [trim_zero rfl]; exact h.2.2⟩
theorem ShrInv.stop {y t : Nat} {O : List Nat} (h : ShrInv y t O) (hy : y < 2 ^ t) : dval O = y := by rw [h.2.2, Nat.mod_eq_of_lt hy]
/-- A number by a power of two, of either sign. -/
def shv (x : Nat) (k : Int) : Nat := if 0 ≤ k then x * 2 ^ k.toNat else x / 2 ^ (-k).toNat
end Go.Proofs.YtebfggiodhaahaaGreatDoor
end
section
namespace Go.Proofs.YtebfggiodhaahaaGreatDoor
open Go.RowKit Go.Shelf

/-- The power of two of the last digit. -/
def ex (b : Nat) : Int := if b / 4503599627370496 % 2048 = 0 then -1074 else ((b / 4503599627370496 % 2048 : Nat) : Int) - 1075
end Go.Proofs.YtebfggiodhaahaaGreatDoor
end
