/-
  Spans compared: '==' of two, slices.Equal, the reference's Same: the contracts.
-/
import Derived.Test.YtjlgiejggcbgbaaGreatDoorSpA
import Derived.BigRegion
import Derived.BigQuiet
import Derived.RegionTactic
namespace Go.Proofs.YtjlgiejggcbgbaaGreatDoor
open Go.RowKit Go.Shelf
open Go.Sort (grow)
attribute [local go_sem ↓] eql_nat neq_nat eql_int5 neq_int5

theorem equalIn_int5_at (d : Nat) (g h : Bool) (a0 a1 a2 a3 b0 b1 b2 b3 : Int) (w : World) :
    (Op.equalIn (d + 3) 29 (.agg #[.bool g, .int .u64 a0, .int .u64 a1, .int .u64 a2, .int .u64 a3]) (.agg #[.bool h, .int .u64 b0, .int .u64 b1, .int .u64 b2, .int .u64 b3])).run Tryz.prog w = .ok (eq5 g a0 a1 a2 a3 h b0 b1 b2 b3) w := by
  have hf : Tryz.prog.underlying 29 = some (.struct (Tryz.prog.fieldsOf 29)) := by kernel_rfl
  have hs : Tryz.prog.stoodInHeld 29 = false := by kernel_rfl
  have p0 : ∀ (u v0 v1 v2 v3 : Value) (W : World), (part 4 #[u, v0, v1, v2, v3] 0).run Tryz.prog W = .ok u W := fun u v0 v1 v2 v3 W => by
    have hb : ∀ W, (isAgg 4).run Tryz.prog W = .ok false W := fun _ => by kernel_rfl
    unfold part; simp [go_sem, hb]
  have p1 : ∀ (u v0 v1 v2 v3 : Value) (W : World), (part 27 #[u, v0, v1, v2, v3] 1).run Tryz.prog W = .ok (.agg #[v0, v1, v2, v3]) W := fun u v0 v1 v2 v3 W => by
    have hb : ∀ W, (isAgg 27).run Tryz.prog W = .ok true W := fun _ => by kernel_rfl
    have hz : ∀ W, (Go.sizeOf 27).run Tryz.prog W = .ok 4 W := fun _ => by kernel_rfl
    unfold part; simp [go_sem, hb, hz]
  rw [show d + 3 = (d + 2) + 1 from rfl, run_equalIn_struct _ _ _ _ _ hf hs]
  have hfl : (Tryz.prog.fieldsOf 29).toList = [{ name := "Neg", type := 4, offset := 0, embedded := false, tag := "", pkgPath := "", byteOffset := 0 }, { name := "N", type := 27, offset := 1, embedded := false, tag := "", pkgPath := "", byteOffset := 8 }] := by kernel_rfl
  rw [hfl]
  have qb : ∀ W, (Op.equalIn (d + 2) 4 (.bool g) (.bool h)).run Tryz.prog W = .ok (g == h) W := fun W => run_equalIn_bool' W (d + 1) _ _ _ (by kernel_rfl)
  have qn : ∀ W, (Op.equalIn (d + 2) 27 (.agg #[.int .u64 a0, .int .u64 a1, .int .u64 a2, .int .u64 a3]) (.agg #[.int .u64 b0, .int .u64 b1, .int .u64 b2, .int .u64 b3])).run Tryz.prog W = .ok (eq4 a0 a1 a2 a3 b0 b1 b2 b3) W := fun W => equalIn_nat_at d _ _ _ _ _ _ _ _ W
  unfold eq5
  have n1 : ("Neg" : String) ≠ "_" := by decide
  have n2 : ("N" : String) ≠ "_" := by decide
  simp only [Op.eqFields, ne_eq, n1, n2, not_false_eq_true, if_true, Sem.run_bind, p0, qb, Result.andThen_ok]
  cases g == h <;> cases he : eq4 a0 a1 a2 a3 b0 b1 b2 b3 <;> simp [Sem.run_pure, Sem.run_bind, p1, qn, he]
/-- Are two spans the same, cell by cell? -/
def eq12 (hl hh gl : Bool) (a0 a1 a2 a3 : Int) (gh : Bool) (b0 b1 b2 b3 : Int) (hl' hh' gl' : Bool) (a0' a1' a2' a3' : Int) (gh' : Bool) (b0' b1' b2' b3' : Int) : Bool :=
  hl == hl' && (hh == hh' && (eq5 gl a0 a1 a2 a3 gl' a0' a1' a2' a3' && eq5 gh b0 b1 b2 b3 gh' b0' b1' b2' b3'))
theorem equalIn_span (hl hh gl : Bool) (a0 a1 a2 a3 : Int) (gh : Bool) (b0 b1 b2 b3 : Int) (hl' hh' gl' : Bool) (a0' a1' a2' a3' : Int) (gh' : Bool) (b0' b1' b2' b3' : Int) (w : World) :
    (Op.equalIn 10000 37 (V12 hl hh gl a0 a1 a2 a3 gh b0 b1 b2 b3) (V12 hl' hh' gl' a0' a1' a2' a3' gh' b0' b1' b2' b3')).run Tryz.prog w = .ok (eq12 hl hh gl a0 a1 a2 a3 gh b0 b1 b2 b3 hl' hh' gl' a0' a1' a2' a3' gh' b0' b1' b2' b3') w := by
  have hf : Tryz.prog.underlying 37 = some (.struct (Tryz.prog.fieldsOf 37)) := by kernel_rfl
  have hs : Tryz.prog.stoodInHeld 37 = false := by kernel_rfl
  have hb : ∀ W, (isAgg 4).run Tryz.prog W = .ok false W := fun _ => by kernel_rfl
  have hi : ∀ W, (isAgg 29).run Tryz.prog W = .ok true W := fun _ => by kernel_rfl
  have hz : ∀ W, (Go.sizeOf 29).run Tryz.prog W = .ok 5 W := fun _ => by kernel_rfl
  have p0 : ∀ (v0 v1 v2 v3 v4 v5 v6 v7 v8 v9 v10 v11 : Value) (W : World), (part 4 #[v0, v1, v2, v3, v4, v5, v6, v7, v8, v9, v10, v11] 0).run Tryz.prog W = .ok v0 W := fun _ _ _ _ _ _ _ _ _ _ _ _ W => by unfold part; simp [go_sem, hb]
  have p1 : ∀ (v0 v1 v2 v3 v4 v5 v6 v7 v8 v9 v10 v11 : Value) (W : World), (part 4 #[v0, v1, v2, v3, v4, v5, v6, v7, v8, v9, v10, v11] 1).run Tryz.prog W = .ok v1 W := fun _ _ _ _ _ _ _ _ _ _ _ _ W => by unfold part; simp [go_sem, hb]
  have p2 : ∀ (v0 v1 v2 v3 v4 v5 v6 v7 v8 v9 v10 v11 : Value) (W : World), (part 29 #[v0, v1, v2, v3, v4, v5, v6, v7, v8, v9, v10, v11] 2).run Tryz.prog W = .ok (.agg #[v2, v3, v4, v5, v6]) W := fun _ _ _ _ _ _ _ _ _ _ _ _ W => by unfold part; simp [go_sem, hi, hz]
  have p3 : ∀ (v0 v1 v2 v3 v4 v5 v6 v7 v8 v9 v10 v11 : Value) (W : World), (part 29 #[v0, v1, v2, v3, v4, v5, v6, v7, v8, v9, v10, v11] 7).run Tryz.prog W = .ok (.agg #[v7, v8, v9, v10, v11]) W := fun _ _ _ _ _ _ _ _ _ _ _ _ W => by unfold part; simp [go_sem, hi, hz]
  rw [show (10000 : Nat) = 9999 + 1 from rfl, run_equalIn_struct _ _ _ _ _ hf hs]
  have hfl : (Tryz.prog.fieldsOf 37).toList = [{ name := "HasLo", type := 4, offset := 0, embedded := false, tag := "", pkgPath := "", byteOffset := 0 }, { name := "HasHi", type := 4, offset := 1, embedded := false, tag := "", pkgPath := "", byteOffset := 1 }, { name := "Lo", type := 29, offset := 2, embedded := false, tag := "", pkgPath := "", byteOffset := 8 }, { name := "Hi", type := 29, offset := 7, embedded := false, tag := "", pkgPath := "", byteOffset := 48 }] := by kernel_rfl
  rw [hfl]
  have qb : ∀ (g h : Bool) W, (Op.equalIn 9999 4 (.bool g) (.bool h)).run Tryz.prog W = .ok (g == h) W := fun g h W => run_equalIn_bool' W 9998 _ _ _ (by kernel_rfl)
  have qn := fun (g h : Bool) (a0 a1 a2 a3 b0 b1 b2 b3 : Int) (W : World) => equalIn_int5_at 9996 g h a0 a1 a2 a3 b0 b1 b2 b3 W
  unfold eq12
  have n1 : ("HasLo" : String) ≠ "_" := by decide
  have n2 : ("HasHi" : String) ≠ "_" := by decide
  have n3 : ("Lo" : String) ≠ "_" := by decide
  have n4 : ("Hi" : String) ≠ "_" := by decide
  simp only [Op.eqFields, ne_eq, n1, n2, n3, n4, not_false_eq_true, if_true, Sem.run_bind, p0, qb, Result.andThen_ok]
  cases hl == hl'
  · simp [Sem.run_pure]
  cases h1 : hh == hh'
  · simp [Sem.run_pure, Sem.run_bind, p1, qb, h1]
  cases h2 : eq5 gl a0 a1 a2 a3 gl' a0' a1' a2' a3'
  · simp [Sem.run_pure, Sem.run_bind, p1, qb, h1, p2, qn, h2]
  cases h3 : eq5 gh b0 b1 b2 b3 gh' b0' b1' b2' b3' <;> simp [Sem.run_pure, Sem.run_bind, p1, qb, h1, p2, qn, h2, p3, h3]
theorem neq_span (hl hh gl : Bool) (a0 a1 a2 a3 : Int) (gh : Bool) (b0 b1 b2 b3 : Int) (hl' hh' gl' : Bool) (a0' a1' a2' a3' : Int) (gh' : Bool) (b0' b1' b2' b3' : Int) (w : World) :
    (binOp .neq 37 (V12 hl hh gl a0 a1 a2 a3 gh b0 b1 b2 b3) (V12 hl' hh' gl' a0' a1' a2' a3' gh' b0' b1' b2' b3')).run Tryz.prog w = .ok (.bool (!eq12 hl hh gl a0 a1 a2 a3 gh b0 b1 b2 b3 hl' hh' gl' a0' a1' a2' a3' gh' b0' b1' b2' b3')) w := by
  rw [run_neq_struct, equalIn_span]; rfl
/-- Are two spans the same? -/
def eqR (r s : RS) : Bool := eq12 r.hl r.hh r.gl (lb 0 r.xl) (lb 1 r.xl) (lb 2 r.xl) (lb 3 r.xl) r.gh (lb 0 r.xh) (lb 1 r.xh) (lb 2 r.xh) (lb 3 r.xh) s.hl s.hh s.gl (lb 0 s.xl) (lb 1 s.xl) (lb 2 s.xl) (lb 3 s.xl) s.gh (lb 0 s.xh) (lb 1 s.xh) (lb 2 s.xh) (lb 3 s.xh)
theorem eqR_iff {r s : RS} (h1 : r.xl < 2 ^ 256 ∧ r.xh < 2 ^ 256) (h2 : s.xl < 2 ^ 256 ∧ s.xh < 2 ^ 256) : eqR r s = true ↔ r = s := by
  unfold eqR eq12
  rw [eq5_int _ _ _ _ h1.1 h2.1, eq5_int _ _ _ _ h1.2 h2.2]
  obtain ⟨a, b, c, d, e, f⟩ := r
  obtain ⟨a', b', c', d', e', f'⟩ := s
  simp only [Bool.and_eq_true, beq_iff_eq, decide_eq_true_eq, RS.mk.injEq]
  constructor
  · rintro ⟨h1, h2, ⟨h3, h4⟩, h5, h6⟩; exact ⟨h1, h2, h3, h4, h5, h6⟩
  · rintro ⟨h1, h2, h3, h4, h5, h6⟩; exact ⟨h1, h2, ⟨h3, h4⟩, h5, h6⟩
/-- Are two lists the same, span by span? -/
def eqL : List RS → List RS → Bool
  | [], [] => true
  | r :: l, s :: m => eqR r s && eqL l m
  | _, _ => false
theorem eqL_iff : ∀ {l m : List RS}, (∀ r ∈ l, r.xl < 2 ^ 256 ∧ r.xh < 2 ^ 256) → (∀ r ∈ m, r.xl < 2 ^ 256 ∧ r.xh < 2 ^ 256) → (eqL l m = true ↔ l = m)
  | [], [], _, _ => by simp [eqL]
  | [], _ :: _, _, _ => by simp [eqL]
  | _ :: _, [], _, _ => by simp [eqL]
  | r :: l, s :: m, h1, h2 => by
    rw [eqL, Bool.and_eq_true, eqR_iff (h1 r List.mem_cons_self) (h2 s List.mem_cons_self), eqL_iff (fun q hq => h1 q (List.mem_cons_of_mem _ hq)) (fun q hq => h2 q (List.mem_cons_of_mem _ hq)), List.cons.injEq]
theorem eqL_len : ∀ {l m : List RS}, l.length ≠ m.length → eqL l m = false
  | [], [], h => absurd rfl h
  | [], _ :: _, _ => rfl
  | _ :: _, [], _ => rfl
  | r :: l, s :: m, h => by rw [eqL, eqL_len (by simpa using h), Bool.and_false]
theorem eqL_at : ∀ {l m : List RS} {k : Nat} {r s : RS}, l[k]? = some r → m[k]? = some s → eqL (l.drop k) (m.drop k) = (eqR r s && eqL (l.drop (k + 1)) (m.drop (k + 1))) := by
  intro l m k r s h1 h2
  obtain ⟨hk, rfl⟩ := List.getElem?_eq_some_iff.1 h1
  obtain ⟨hk2, rfl⟩ := List.getElem?_eq_some_iff.1 h2
  rw [List.drop_eq_getElem_cons hk, List.drop_eq_getElem_cons hk2, eqL]
end Go.Proofs.YtjlgiejggcbgbaaGreatDoor
