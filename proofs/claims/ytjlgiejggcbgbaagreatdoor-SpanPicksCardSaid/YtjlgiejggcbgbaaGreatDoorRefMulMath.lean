/-
  The reference's Mul: the arithmetic of its loops; a block of digits that the call made. For all digits of 32 bits.
-/
import Derived.Test.YtjlgiejggcbgbaaGreatDoorRefSub
import Derived.Deep.OwnRows
namespace Go.Proofs.YtjlgiejggcbgbaaGreatDoor
open Go.RowKit Go.Shelf

/-- Block g is just these digits. -/
def Dk (W : World) (g : Nat) (O : List Nat) : Prop := W.heap[g]? = some (.cells (U32s O).toArray 68 (0, 0))
theorem Dk.lt {W : World} {g : Nat} {O : List Nat} (h : Dk W g O) : g < W.heap.size := by
  rcases Nat.lt_or_ge g W.heap.size with hlt | hge
  · exact hlt
  · unfold Dk at h; rw [Array.getElem?_eq_none hge] at h; cases h
theorem U32s_at {O : List Nat} {i : Nat} (hi : i < O.length) : (U32s O)[i]? = some (.int .u32 ((O.getD i 0 : Nat) : Int)) := by
  unfold U32s
  rw [List.getElem?_map, List.getD_eq_getElem?_getD, List.getElem?_eq_getElem hi]; rfl
theorem Dk.cell {W : World} {g : Nat} {O : List Nat} (h : Dk W g O) {i : Nat} (hi : i < O.length) : W.cell? ⟨g, i, none⟩ = some (.int .u32 ((O.getD i 0 : Nat) : Int)) := by
  rw [cell_of_row W g i _ _ _ h, ← U32s_at hi]
  simp
theorem Dk.free {W : World} {g : Nat} {O : List Nat} (h : Dk W g O) (i : Nat) : W.frozen? ⟨g, i, none⟩ = false := frozen_of_row W g i _ _ h
theorem Dk.keep {W W' : World} {g : Nat} {O : List Nat} (hb : Below W.heap.size W W') (h : Dk W g O) : Dk W' g O := (hb.block g h.lt).trans h
theorem Dk.set {W : World} {g : Nat} {O : List Nat} (h : Dk W g O) (i d : Nat) (z : Int) (e : (d : Int) = z) : Dk (W.setCell ⟨g, i, none⟩ (.int .u32 z)) g (O.set i d) := by
  unfold Dk at *
  rw [heap_setCell_same W g i _ _ _ h]
  congr 2
  rw [← e]
  apply Array.ext'
  simp [U32s, List.map_set]
theorem Dk.rd {W : World} {g : Nat} {O : List Nat} (h : Dk W g O) (hl : O.length ≤ 9223372036854775807) : Rd W (.slice (some ⟨g, 0, none⟩) O.length O.length) O :=
  .inr ⟨g, 0, O.length, rfl, ⟨Nat.le_refl _, hl⟩, h.lt, fun i hi => by rw [Nat.zero_add]; exact h.cell hi⟩
theorem made_u32 (N : Nat) : madeCells #[.int .u32 0] N = (U32s (List.replicate N 0)).toArray := by
  apply Array.ext'
  apply List.ext_getElem
  · simp [madeCells, U32s]
  · intro i h1 h2
    simp [madeCells, U32s, Nat.mod_one]
theorem make_u32 (N : Nat) (hN : N ≤ 100000) (z : Int) (e : (N : Int) = z) (W : World) :
    (Instr.makeSlice 57 (.int .i64 z) (.int .i64 z)).run Tryz.prog W = .ok (.slice (some ⟨W.heap.size, 0, none⟩) N N) (W.alloc (.cells (U32s (List.replicate N 0)).toArray 68)) := by
  rw [← e, ← made_u32]
  exact run_make_row' 57 68 (.int .u32 0) 4 und_d info_u32 rfl .i64 .i64 N (by omega) (by omega) W
theorem Dk.new (W : World) (O : List Nat) : Dk (W.alloc (.cells (U32s O).toArray 68)) W.heap.size O := heap_alloc_new W _
theorem Sm.zeros (N : Nat) : Sm (List.replicate N 0) := fun d hd => by rw [List.eq_of_mem_replicate hd]; decide
theorem dval_zeros (N : Nat) : dval (List.replicate N 0) = 0 := by
  induction N with
  | zero => rfl
  | succ N ih => rw [List.replicate_succ, dval, ih]
theorem dval_set (l : List Nat) (p d : Nat) (h : p < l.length) : dval (l.set p d) + 2 ^ (32 * p) * l.getD p 0 = dval l + 2 ^ (32 * p) * d := by
  induction l generalizing p with
  | nil => cases h
  | cons e l ih =>
    cases p with
    | zero => simp only [List.set_cons_zero, dval, List.getD_cons_zero, Nat.mul_zero, Nat.pow_zero, Nat.one_mul]; omega
    | succ p =>
      have := ih p (by simpa using h)
      rw [List.set_cons_succ, dval, dval, List.getD_cons_succ, show 32 * (p + 1) = 32 + 32 * p from by omega, Nat.pow_add, Nat.mul_assoc, Nat.mul_assoc]
      have e2 : (2 : Nat) ^ 32 = 4294967296 := by decide
      rw [e2]
      omega
theorem dval_ge (l : List Nat) (p : Nat) : 2 ^ (32 * p) * l.getD p 0 ≤ dval l := by
  induction l generalizing p with
  | nil => simp
  | cons e l ih =>
    cases p with
    | zero => simp only [dval, List.getD_cons_zero, Nat.mul_zero, Nat.pow_zero, Nat.one_mul]; omega
    | succ p =>
      have := ih p
      rw [dval, List.getD_cons_succ, show 32 * (p + 1) = 32 + 32 * p from by omega, Nat.pow_add, Nat.mul_assoc]
      have e2 : (2 : Nat) ^ 32 = 4294967296 := by decide
      rw [e2]
      omega
/-- What holds at the head of the outer loop, of the inner one. -/
def MulOut (x y N i : Nat) (O : List Nat) : Prop := O.length = N ∧ Sm O ∧ dval O = (x % 2 ^ (32 * i)) * y
def MulIn (x y N i j c : Nat) (O : List Nat) : Prop :=
  O.length = N ∧ Sm O ∧ c < 4294967296 ∧ dval O + 2 ^ (32 * (i + j)) * c = (x % 2 ^ (32 * i)) * y + 2 ^ (32 * i) * ((x / 2 ^ (32 * i) % 4294967296) * (y % 2 ^ (32 * j)))
theorem MulOut.zero (x y N : Nat) : MulOut x y N 0 (List.replicate N 0) := ⟨by simp, Sm.zeros N, by rw [dval_zeros]; simp [Nat.mod_one]⟩
theorem MulOut.into {x y N i : Nat} {O : List Nat} (h : MulOut x y N i O) : MulIn x y N i 0 0 O := by
  obtain ⟨h1, h2, h3⟩ := h
  exact ⟨h1, h2, by omega, by rw [h3]; simp [Nat.mod_one]⟩
theorem MulIn.next {x y N i j c : Nat} {O : List Nat} (h : MulIn x y N i j c O) (hp : i + j < N) {o a b s : Nat} (ho : o = O.getD (i + j) 0) (ha : a = x / 2 ^ (32 * i) % 4294967296) (hb : b = y / 2 ^ (32 * j) % 4294967296) (hs : s = c + o + a * b) (hs2 : s < 18446744073709551616) :
    MulIn x y N i (j + 1) (s / 4294967296) (O.set (i + j) (s % 4294967296)) := by
  obtain ⟨h1, h2, h3, h4⟩ := h
  refine ⟨by simp [h1], h2.set _ (by omega), by omega, ?_⟩
  have e := dval_set O (i + j) (s % 4294967296) (by omega)
  rw [← ho] at e
  rw [mod_step y j, ← hb, show i + (j + 1) = (i + j) + 1 from by omega, pow_step, Nat.mul_add ( x / 2 ^ (32 * i) % 4294967296), Nat.mul_add (2 ^ (32 * i))]
  rw [← ha] at h4 ⊢
  have e3 : 2 ^ (32 * i) * (a * (2 ^ (32 * j) * b)) = 2 ^ (32 * (i + j)) * (a * b) := by
    rw [Nat.mul_left_comm a, ← Nat.mul_assoc, ← Nat.pow_add, ← Nat.mul_add]
  rw [e3]
  have e4 : 2 ^ (32 * (i + j)) * s = 2 ^ (32 * (i + j)) * (s % 4294967296) + 2 ^ (32 * (i + j)) * 4294967296 * (s / 4294967296) := by
    rw [Nat.mul_assoc, ← Nat.mul_add]
    congr 1
    omega
  have e5 : 2 ^ (32 * (i + j)) * s = 2 ^ (32 * (i + j)) * c + 2 ^ (32 * (i + j)) * o + 2 ^ (32 * (i + j)) * (a * b) := by
    rw [hs, Nat.mul_add, Nat.mul_add]
  omega
theorem MulIn.stop {x y N i j : Nat} {O : List Nat} (h : MulIn x y N i j 0 O) (hy : (digs y).length ≤ j) : MulOut x y N (i + 1) O := by
  obtain ⟨h1, h2, h3, h4⟩ := h
  refine ⟨h1, h2, ?_⟩
  rw [Nat.mul_zero, Nat.add_zero, Nat.mod_eq_of_lt (digs_len.1 hy)] at h4
  rw [h4, mod_step, Nat.add_mul, Nat.mul_assoc]
/-- Behind the last digit of the second number nothing is carried on. -/
theorem MulIn.last {x y N i j c : Nat} {O : List Nat} (h : MulIn x y N i j c O) (hy : (digs y).length ≤ j) : c + O.getD (i + j) 0 < 4294967296 := by
  obtain ⟨h1, h2, h3, h4⟩ := h
  rw [Nat.mod_eq_of_lt (digs_len.1 hy), ← Nat.mul_assoc, ← Nat.add_mul, ← mod_step] at h4
  have g := dval_ge O (i + j)
  have hx : x % 2 ^ (32 * (i + 1)) < 2 ^ (32 * (i + 1)) := Nat.mod_lt _ (Nat.two_pow_pos _)
  have hyl := digs_len.1 hy
  have ht : x % 2 ^ (32 * (i + 1)) * y < 2 ^ (32 * (i + j)) * 4294967296 := by
    have e : 2 ^ (32 * (i + j)) * 4294967296 = 2 ^ (32 * (i + 1)) * 2 ^ (32 * j) := by
      rw [show (4294967296 : Nat) = 2 ^ 32 from by decide, ← Nat.pow_add, ← Nat.pow_add]; congr 1; omega
    rw [e]
    rcases Nat.eq_zero_or_pos y with h0 | h0
    · rw [h0, Nat.mul_zero]; exact Nat.mul_pos (Nat.two_pow_pos _) (Nat.two_pow_pos _)
    · exact Nat.mul_lt_mul'' hx hyl
  have hq : 2 ^ (32 * (i + j)) * (c + O.getD (i + j) 0) < 2 ^ (32 * (i + j)) * 4294967296 := by rw [Nat.mul_add]; omega
  exact Nat.lt_of_mul_lt_mul_left hq
theorem MulOut.stop {x y N i : Nat} {O : List Nat} (h : MulOut x y N i O) (hx : (digs x).length ≤ i) : dval O = x * y := by
  rw [h.2.2, Nat.mod_eq_of_lt (digs_len.1 hx)]
theorem sum_bound {c o a b : Nat} (hc : c < 4294967296) (ho : o < 4294967296) (ha : a < 4294967296) (hb : b < 4294967296) : c + o + a * b < 18446744073709551616 ∧ a * b ≤ 18446744065119617025 := by
  have h : a * b ≤ 4294967295 * 4294967295 := Nat.mul_le_mul (by omega) (by omega)
  omega
end Go.Proofs.YtjlgiejggcbgbaaGreatDoor
