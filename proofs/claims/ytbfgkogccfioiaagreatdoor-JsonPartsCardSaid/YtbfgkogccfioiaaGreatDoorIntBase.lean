/-
  Whole numbers (a sign and four words) as values: a block that holds one; the law of the model's comparison at this type. For all words.
-/
import Derived.Test.YtbfgkogccfioiaaGreatDoorNatEq
import Derived.Laws.StructEq
import Derived.Deep.DeepCutAuto
namespace Go.Proofs.YtbfgkogccfioiaaGreatDoor
open Go.RowKit Go.Shelf

/-- A whole number's value: its sign, and its limbs. -/
abbrev I5 (g : Bool) (x : Nat) : Value := .agg #[.bool g, .int .u64 (lb 0 x), .int .u64 (lb 1 x), .int .u64 (lb 2 x), .int .u64 (lb 3 x)]
abbrev Z5 : Value := .agg #[.bool false, .int .u64 0, .int .u64 0, .int .u64 0, .int .u64 0]

/-- A block that holds a whole number. -/
def Row5 (W : World) (b : Nat) (g v0 v1 v2 v3 : Value) : Prop := W.heap[b]? = some (.cells #[g, v0, v1, v2, v3] 26 (0, 0))
theorem Row5.lt {W : World} {b : Nat} {g v0 v1 v2 v3 : Value} (h : Row5 W b g v0 v1 v2 v3) : b < W.heap.size := by
  unfold Row5 at h
  exact (Array.getElem?_eq_some_iff.1 h).1
theorem Row5.new (W : World) (g v0 v1 v2 v3 : Value) : Row5 (W.alloc (.cells #[g, v0, v1, v2, v3] 26)) W.heap.size g v0 v1 v2 v3 := heap_alloc_new W _
theorem Row5.new' (W : World) {b : Nat} (hb : b = W.heap.size) (g v0 v1 v2 v3 : Value) : Row5 (W.alloc (.cells #[g, v0, v1, v2, v3] 26)) b g v0 v1 v2 v3 := by subst hb; exact heap_alloc_new W _
theorem Row5.alloc {W : World} {b : Nat} {g v0 v1 v2 v3 : Value} (h : Row5 W b g v0 v1 v2 v3) (o : Obj) : Row5 (W.alloc o) b g v0 v1 v2 v3 :=
  (Below.heap_alloc W o b h.lt).trans h
theorem Row5.drew {W : World} {b : Nat} {g v0 v1 v2 v3 : Value} (h : Row5 W b g v0 v1 v2 v3) : Row5 W.drew b g v0 v1 v2 v3 := h
theorem Row5.drewN {W : World} {b : Nat} {g v0 v1 v2 v3 : Value} (h : Row5 W b g v0 v1 v2 v3) (n : Nat) : Row5 (W.drewN n) b g v0 v1 v2 v3 := h
theorem Row5.keep {W W' : World} {b : Nat} {g v0 v1 v2 v3 : Value} (hb : Below W.heap.size W W') (h : Row5 W b g v0 v1 v2 v3) : Row5 W' b g v0 v1 v2 v3 :=
  (hb.block b h.lt).trans h
theorem Row5.set {W : World} {b c i : Nat} {g v0 v1 v2 v3 : Value} (h : Row5 W b g v0 v1 v2 v3) (hne : b ≠ c) (u : Value) : Row5 (W.setCell ⟨c, i, none⟩ u) b g v0 v1 v2 v3 := by
  unfold Row5 at *
  rw [← h]
  exact Below.heap_setCell W ⟨c, i, none⟩ u b hne
theorem Row5.set5 {W : World} {b : Nat} {g v0 v1 v2 v3 : Value} (h : Row5 W b g v0 v1 v2 v3) (u u0 u1 u2 u3 : Value) :
    Row5 (((((W.setCell ⟨b, 0, none⟩ u).setCell ⟨b, 1, none⟩ u0).setCell ⟨b, 2, none⟩ u1).setCell ⟨b, 3, none⟩ u2).setCell ⟨b, 4, none⟩ u3) b u u0 u1 u2 u3 := by
  unfold Row5 at *
  have h0 := heap_setCell_same W b 0 _ _ u h
  have h1 := heap_setCell_same _ b 1 _ _ u0 h0
  have h2 := heap_setCell_same _ b 2 _ _ u1 h1
  have h3 := heap_setCell_same _ b 3 _ _ u2 h2
  have h4 := heap_setCell_same _ b 4 _ _ u3 h3
  simpa using h4
theorem Row5.sign {W : World} {b : Nat} {g v0 v1 v2 v3 : Value} (h : Row5 W b g v0 v1 v2 v3) (u : Value) : Row5 (W.setCell ⟨b, 0, none⟩ u) b u v0 v1 v2 v3 := by
  unfold Row5 at *
  have h0 := heap_setCell_same W b 0 _ _ u h
  simpa using h0
theorem Row5.parts {W : World} {b : Nat} {g v0 v1 v2 v3 : Value} (h : Row5 W b g v0 v1 v2 v3) :
    W.cell? ⟨b, 0, none⟩ = some g ∧ W.cell? ⟨b, 1, none⟩ = some v0 ∧ W.cell? ⟨b, 2, none⟩ = some v1 ∧ W.cell? ⟨b, 3, none⟩ = some v2 ∧ W.cell? ⟨b, 4, none⟩ = some v3 :=
  ⟨cell_of_row W b 0 _ _ _ h, cell_of_row W b 1 _ _ _ h, cell_of_row W b 2 _ _ _ h, cell_of_row W b 3 _ _ _ h, cell_of_row W b 4 _ _ _ h⟩
theorem Row5.free {W : World} {b : Nat} {g v0 v1 v2 v3 : Value} (h : Row5 W b g v0 v1 v2 v3) :
    W.frozen? ⟨b, 0, none⟩ = false ∧ W.frozen? ⟨b, 1, none⟩ = false ∧ W.frozen? ⟨b, 2, none⟩ = false ∧ W.frozen? ⟨b, 3, none⟩ = false ∧ W.frozen? ⟨b, 4, none⟩ = false :=
  ⟨frozen_of_row W b 0 _ _ h, frozen_of_row W b 1 _ _ h, frozen_of_row W b 2 _ _ h, frozen_of_row W b 3 _ _ h, frozen_of_row W b 4 _ _ h⟩
theorem bsc5 {w X : World} (h : Below w.heap.size w X) {b : Nat} (hb : w.heap.size ≤ b) (u v0 v1 v2 v3 : Value) :
    Below w.heap.size w (((((X.setCell ⟨b, 0, none⟩ u).setCell ⟨b, 1, none⟩ v0).setCell ⟨b, 2, none⟩ v1).setCell ⟨b, 3, none⟩ v2).setCell ⟨b, 4, none⟩ v3) :=
  bsc (bsc (bsc (bsc (bsc h hb _) hb _) hb _) hb _) hb _
theorem Row4.four {W : World} {b : Nat} {v0 v1 v2 v3 : Value} (h : Row4 W b v0 v1 v2 v3) :
    W.cell? ⟨b, 0, none⟩ = some v0 ∧ W.cell? ⟨b, 1, none⟩ = some v1 ∧ W.cell? ⟨b, 2, none⟩ = some v2 ∧ W.cell? ⟨b, 3, none⟩ = some v3 :=
  ⟨h.parts.1, h.parts.2.1, h.parts.2.2.1, h.parts.2.2.2.1⟩

theorem Row4.free4 {W : World} {b : Nat} {v0 v1 v2 v3 : Value} (h : Row4 W b v0 v1 v2 v3) :
    W.frozen? ⟨b, 0, none⟩ = false ∧ W.frozen? ⟨b, 1, none⟩ = false ∧ W.frozen? ⟨b, 2, none⟩ = false ∧ W.frozen? ⟨b, 3, none⟩ = false :=
  h.parts.2.2.2.2

theorem equalIn_nat_at (d : Nat) (a0 a1 a2 a3 b0 b1 b2 b3 : Int) (w : World) :
    (Op.equalIn (d + 2) 24 (.agg #[.int .u64 a0, .int .u64 a1, .int .u64 a2, .int .u64 a3]) (.agg #[.int .u64 b0, .int .u64 b1, .int .u64 b2, .int .u64 b3])).run Tryz.prog w = .ok (eq4 a0 a1 a2 a3 b0 b1 b2 b3) w := by
  have hu : Tryz.prog.underlying 24 = some (.array 4 22) := by kernel_rfl
  have he : Tryz.prog.underlying 22 = some (.int .u64) := by kernel_rfl
  have ha : ∀ W, (isAgg 22).run Tryz.prog W = .ok false W := fun _ => by kernel_rfl
  have hp : ∀ (xs : Array Value) (i : Nat) (v : Value) (W : World), xs[i]? = some v → (part 22 xs i).run Tryz.prog W = .ok v W := fun xs i v W h => by
    unfold part; simp [go_sem, ha, h]
  rw [show d + 2 = (d + 1) + 1 from rfl, Op.equalIn]
  simp only [Sem.run_bind, run_underlying hu, Result.andThen_ok, info_elem]
  unfold eq4
  have qe : ∀ (x y : Int) (W : World), (Op.equalIn (d + 1) 22 (.int .u64 x) (.int .u64 y)).run Tryz.prog W = .ok (x == y) W := fun x y W => run_equalIn_int W d _ _ _ _ _ he
  have pa0 := fun W => hp (#[.int .u64 a0, .int .u64 a1, .int .u64 a2, .int .u64 a3]) (0 * 1) (.int .u64 a0) W rfl
  have pa1 := fun W => hp (#[.int .u64 a0, .int .u64 a1, .int .u64 a2, .int .u64 a3]) (1 * 1) (.int .u64 a1) W rfl
  have pa2 := fun W => hp (#[.int .u64 a0, .int .u64 a1, .int .u64 a2, .int .u64 a3]) (2 * 1) (.int .u64 a2) W rfl
  have pa3 := fun W => hp (#[.int .u64 a0, .int .u64 a1, .int .u64 a2, .int .u64 a3]) (3 * 1) (.int .u64 a3) W rfl
  have pb0 := fun W => hp (#[.int .u64 b0, .int .u64 b1, .int .u64 b2, .int .u64 b3]) (0 * 1) (.int .u64 b0) W rfl
  have pb1 := fun W => hp (#[.int .u64 b0, .int .u64 b1, .int .u64 b2, .int .u64 b3]) (1 * 1) (.int .u64 b1) W rfl
  have pb2 := fun W => hp (#[.int .u64 b0, .int .u64 b1, .int .u64 b2, .int .u64 b3]) (2 * 1) (.int .u64 b2) W rfl
  have pb3 := fun W => hp (#[.int .u64 b0, .int .u64 b1, .int .u64 b2, .int .u64 b3]) (3 * 1) (.int .u64 b3) W rfl
  rw [Std.Legacy.Range.forIn_eq_forIn_range']
  rw [show List.range' 0 (Std.Legacy.Range.size [:4]) 1 = [0, 1, 2, 3] from rfl]
  simp only [List.forIn_cons, List.forIn_nil, Sem.run_bind, pa0, pb0, qe, Result.andThen_ok]
  cases h0 : (a0 == b0)
  · simp [Sem.run_pure]
  cases h1 : (a1 == b1)
  · simp [Sem.run_pure, Sem.run_bind, pa1, pb1, qe, h1]
  cases h2 : (a2 == b2)
  · simp [Sem.run_pure, Sem.run_bind, pa1, pb1, qe, h1, pa2, pb2, h2]
  cases h3 : (a3 == b3)
  · simp [Sem.run_pure, Sem.run_bind, pa1, pb1, qe, h1, pa2, pb2, h2, pa3, pb3, h3]
  · simp [Sem.run_pure, Sem.run_bind, pa1, pb1, qe, h1, pa2, pb2, h2, pa3, pb3, h3]

/-- Are the sign and the four words the same? -/
def eq5 (g : Bool) (a0 a1 a2 a3 : Int) (h : Bool) (b0 b1 b2 b3 : Int) : Bool := g == h && eq4 a0 a1 a2 a3 b0 b1 b2 b3
theorem equalIn_int5 (g h : Bool) (a0 a1 a2 a3 b0 b1 b2 b3 : Int) (w : World) :
    (Op.equalIn 10000 26 (.agg #[.bool g, .int .u64 a0, .int .u64 a1, .int .u64 a2, .int .u64 a3]) (.agg #[.bool h, .int .u64 b0, .int .u64 b1, .int .u64 b2, .int .u64 b3])).run Tryz.prog w = .ok (eq5 g a0 a1 a2 a3 h b0 b1 b2 b3) w := by
  have hf : Tryz.prog.underlying 26 = some (.struct (Tryz.prog.fieldsOf 26)) := by kernel_rfl
  have hs : Tryz.prog.stoodInHeld 26 = false := by kernel_rfl
  have p0 : ∀ (u v0 v1 v2 v3 : Value) (W : World), (part 4 #[u, v0, v1, v2, v3] 0).run Tryz.prog W = .ok u W := fun u v0 v1 v2 v3 W => by
    have hb : ∀ W, (isAgg 4).run Tryz.prog W = .ok false W := fun _ => by kernel_rfl
    unfold part; simp [go_sem, hb]
  have p1 : ∀ (u v0 v1 v2 v3 : Value) (W : World), (part 24 #[u, v0, v1, v2, v3] 1).run Tryz.prog W = .ok (.agg #[v0, v1, v2, v3]) W := fun u v0 v1 v2 v3 W => by
    have hb : ∀ W, (isAgg 24).run Tryz.prog W = .ok true W := fun _ => by kernel_rfl
    have hz : ∀ W, (Go.sizeOf 24).run Tryz.prog W = .ok 4 W := fun _ => by kernel_rfl
    unfold part; simp [go_sem, hb, hz]
  rw [show (10000 : Nat) = 9999 + 1 from rfl, run_equalIn_struct _ _ _ _ _ hf hs]
  have hfl : (Tryz.prog.fieldsOf 26).toList = [{ name := "Neg", type := 4, offset := 0, embedded := false, tag := "", pkgPath := "", byteOffset := 0 }, { name := "N", type := 24, offset := 1, embedded := false, tag := "", pkgPath := "", byteOffset := 8 }] := by kernel_rfl
  rw [hfl]
  have qb : ∀ W, (Op.equalIn 9999 4 (.bool g) (.bool h)).run Tryz.prog W = .ok (g == h) W := fun W => run_equalIn_bool' W 9998 _ _ _ (by kernel_rfl)
  have qn : ∀ W, (Op.equalIn 9999 24 (.agg #[.int .u64 a0, .int .u64 a1, .int .u64 a2, .int .u64 a3]) (.agg #[.int .u64 b0, .int .u64 b1, .int .u64 b2, .int .u64 b3])).run Tryz.prog W = .ok (eq4 a0 a1 a2 a3 b0 b1 b2 b3) W := fun W => equalIn_nat_at 9997 _ _ _ _ _ _ _ _ W
  unfold eq5
  have n1 : ("Neg" : String) ≠ "_" := by decide
  have n2 : ("N" : String) ≠ "_" := by decide
  simp only [Op.eqFields, ne_eq, n1, n2, not_false_eq_true, if_true, Sem.run_bind, p0, qb, Result.andThen_ok]
  cases g == h <;> cases he : eq4 a0 a1 a2 a3 b0 b1 b2 b3 <;> simp [Sem.run_pure, Sem.run_bind, p1, qn, he]
theorem eql_int5 (g h : Bool) (a0 a1 a2 a3 b0 b1 b2 b3 : Int) (w : World) :
    (binOp .eql 26 (.agg #[.bool g, .int .u64 a0, .int .u64 a1, .int .u64 a2, .int .u64 a3]) (.agg #[.bool h, .int .u64 b0, .int .u64 b1, .int .u64 b2, .int .u64 b3])).run Tryz.prog w = .ok (.bool (eq5 g a0 a1 a2 a3 h b0 b1 b2 b3)) w := by
  rw [run_eql_struct, equalIn_int5]; rfl
theorem neq_int5 (g h : Bool) (a0 a1 a2 a3 b0 b1 b2 b3 : Int) (w : World) :
    (binOp .neq 26 (.agg #[.bool g, .int .u64 a0, .int .u64 a1, .int .u64 a2, .int .u64 a3]) (.agg #[.bool h, .int .u64 b0, .int .u64 b1, .int .u64 b2, .int .u64 b3])).run Tryz.prog w = .ok (.bool (!eq5 g a0 a1 a2 a3 h b0 b1 b2 b3)) w := by
  rw [run_neq_struct, equalIn_int5]; rfl
theorem eq5_int (g h : Bool) (x y : Nat) (hx : x < 2 ^ 256) (hy : y < 2 ^ 256) : eq5 g (lb 0 x) (lb 1 x) (lb 2 x) (lb 3 x) h (lb 0 y) (lb 1 y) (lb 2 y) (lb 3 y) = decide (g = h ∧ x = y) := by
  unfold eq5
  rw [eq4_nat x y hx hy]
  cases g <;> cases h <;> simp

end Go.Proofs.YtbfgkogccfioiaaGreatDoor
