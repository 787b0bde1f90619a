/-
  value.wrong: the contract; what a value's own parts may be.
-/
import Derived.Test.YtfaaagmjmljhiaaGreatDoorValBare
import Derived.Test.YtfaaagmjmljhiaaGreatDoorValNames
import Derived.Test.YtfaaagmjmljhiaaGreatDoorGF
import Derived.Test.YtfaaagmjmljhiaaGreatDoorGE
import Derived.Lib.QuietBelow
import Derived.BigQuiet
namespace Go.Proofs.YtfaaagmjmljhiaaGreatDoor
open Go.RowKit Go.Shelf
open Go.Sort (grow)

/-- Are two outlines the same? -/
def eqO (k : Int) (g : Bool) (a0 a1 a2 a3 b : Int) (s : ByteArray) (m n : Int) (k' : Int) (h : Bool) (b0 b1 b2 b3 b' : Int) (s' : ByteArray) (m' n' : Int) : Bool :=
  k == k' && (eq5 g a0 a1 a2 a3 h b0 b1 b2 b3 && (b == b' && (s.toList == s'.toList && (m == m' && n == n'))))
theorem equalIn_int5_at (d : Nat) (g h : Bool) (a0 a1 a2 a3 b0 b1 b2 b3 : Int) (w : World) :
    (Op.equalIn (d + 3) 30 (.agg #[.bool g, .int .u64 a0, .int .u64 a1, .int .u64 a2, .int .u64 a3]) (.agg #[.bool h, .int .u64 b0, .int .u64 b1, .int .u64 b2, .int .u64 b3])).run Tryz.prog w = .ok (eq5 g a0 a1 a2 a3 h b0 b1 b2 b3) w := by
  have hf : Tryz.prog.underlying 30 = some (.struct (Tryz.prog.fieldsOf 30)) := by kernel_rfl
  have hs : Tryz.prog.stoodInHeld 30 = false := by kernel_rfl
  have p0 : ∀ (u v0 v1 v2 v3 : Value) (W : World), (part 4 #[u, v0, v1, v2, v3] 0).run Tryz.prog W = .ok u W := fun u v0 v1 v2 v3 W => by
    have hb : ∀ W, (isAgg 4).run Tryz.prog W = .ok false W := fun _ => by kernel_rfl
    unfold part; simp [go_sem, hb]
  have p1 : ∀ (u v0 v1 v2 v3 : Value) (W : World), (part 28 #[u, v0, v1, v2, v3] 1).run Tryz.prog W = .ok (.agg #[v0, v1, v2, v3]) W := fun u v0 v1 v2 v3 W => by
    have hb : ∀ W, (isAgg 28).run Tryz.prog W = .ok true W := fun _ => by kernel_rfl
    have hz : ∀ W, (Go.sizeOf 28).run Tryz.prog W = .ok 4 W := fun _ => by kernel_rfl
    unfold part; simp [go_sem, hb, hz]
  rw [show (d + 3 : Nat) = (d + 2) + 1 from rfl, run_equalIn_struct _ _ _ _ _ hf hs]
  have hfl : (Tryz.prog.fieldsOf 30).toList = [{ name := "Neg", type := 4, offset := 0, embedded := false, tag := "", pkgPath := "", byteOffset := 0 }, { name := "N", type := 28, offset := 1, embedded := false, tag := "", pkgPath := "", byteOffset := 8 }] := by kernel_rfl
  rw [hfl]
  have qb : ∀ W, (Op.equalIn (d + 2) 4 (.bool g) (.bool h)).run Tryz.prog W = .ok (g == h) W := fun W => run_equalIn_bool' W (d + 1) _ _ _ (by kernel_rfl)
  have qn : ∀ W, (Op.equalIn (d + 2) 28 (.agg #[.int .u64 a0, .int .u64 a1, .int .u64 a2, .int .u64 a3]) (.agg #[.int .u64 b0, .int .u64 b1, .int .u64 b2, .int .u64 b3])).run Tryz.prog W = .ok (eq4 a0 a1 a2 a3 b0 b1 b2 b3) W := fun W => equalIn_nat_at d _ _ _ _ _ _ _ _ W
  unfold eq5
  have n1 : ("Neg" : String) ≠ "_" := by decide
  have n2 : ("N" : String) ≠ "_" := by decide
  simp only [Op.eqFields, ne_eq, n1, n2, not_false_eq_true, if_true, Sem.run_bind, p0, qb, Result.andThen_ok]
  cases g == h <;> cases he : eq4 a0 a1 a2 a3 b0 b1 b2 b3 <;> simp [Sem.run_pure, Sem.run_bind, p1, qn, he]
set_option maxHeartbeats 1000000 in
theorem neq_outline (k : Int) (g : Bool) (a0 a1 a2 a3 b : Int) (s : ByteArray) (m n : Int) (k' : Int) (h : Bool) (b0 b1 b2 b3 b' : Int) (s' : ByteArray) (m' n' : Int) (w : World) :
    (binOp .neq 77 (.agg #[.int .i64 k, .bool g, .int .u64 a0, .int .u64 a1, .int .u64 a2, .int .u64 a3, .int .u64 b, .string s, .int .i64 m, .int .i64 n]) (.agg #[.int .i64 k', .bool h, .int .u64 b0, .int .u64 b1, .int .u64 b2, .int .u64 b3, .int .u64 b', .string s', .int .i64 m', .int .i64 n'])).run Tryz.prog w = .ok (.bool (!eqO k g a0 a1 a2 a3 b s m n k' h b0 b1 b2 b3 b' s' m' n')) w ∧
    (binOp .eql 77 (.agg #[.int .i64 k, .bool g, .int .u64 a0, .int .u64 a1, .int .u64 a2, .int .u64 a3, .int .u64 b, .string s, .int .i64 m, .int .i64 n]) (.agg #[.int .i64 k', .bool h, .int .u64 b0, .int .u64 b1, .int .u64 b2, .int .u64 b3, .int .u64 b', .string s', .int .i64 m', .int .i64 n'])).run Tryz.prog w = .ok (.bool (eqO k g a0 a1 a2 a3 b s m n k' h b0 b1 b2 b3 b' s' m' n')) w := by
  have hf : Tryz.prog.underlying 77 = some (.struct (Tryz.prog.fieldsOf 77)) := by kernel_rfl
  have hs : Tryz.prog.stoodInHeld 77 = false := by kernel_rfl
  have ha : ∀ W, (isAgg 3).run Tryz.prog W = .ok false W := fun _ => by kernel_rfl
  have hb : ∀ W, (isAgg 26).run Tryz.prog W = .ok false W := fun _ => by kernel_rfl
  have hc : ∀ W, (isAgg 9).run Tryz.prog W = .ok false W := fun _ => by kernel_rfl
  have hd : ∀ W, (isAgg 30).run Tryz.prog W = .ok true W := fun _ => by kernel_rfl
  have hz : ∀ W, (Go.sizeOf 30).run Tryz.prog W = .ok 5 W := fun _ => by kernel_rfl
  have p0 : ∀ (v0 v1 v2 v3 v4 v5 v6 v7 v8 v9 : Value) (W : World), (part 3 #[v0, v1, v2, v3, v4, v5, v6, v7, v8, v9] 0).run Tryz.prog W = .ok v0 W := fun v0 v1 v2 v3 v4 v5 v6 v7 v8 v9 W => by unfold part; simp [go_sem, ha]
  have p1 : ∀ (v0 v1 v2 v3 v4 v5 v6 v7 v8 v9 : Value) (W : World), (part 30 #[v0, v1, v2, v3, v4, v5, v6, v7, v8, v9] 1).run Tryz.prog W = .ok (.agg #[v1, v2, v3, v4, v5]) W := fun v0 v1 v2 v3 v4 v5 v6 v7 v8 v9 W => by unfold part; simp [go_sem, hd, hz]
  have p6 : ∀ (v0 v1 v2 v3 v4 v5 v6 v7 v8 v9 : Value) (W : World), (part 26 #[v0, v1, v2, v3, v4, v5, v6, v7, v8, v9] 6).run Tryz.prog W = .ok v6 W := fun v0 v1 v2 v3 v4 v5 v6 v7 v8 v9 W => by unfold part; simp [go_sem, hb]
  have p7 : ∀ (v0 v1 v2 v3 v4 v5 v6 v7 v8 v9 : Value) (W : World), (part 9 #[v0, v1, v2, v3, v4, v5, v6, v7, v8, v9] 7).run Tryz.prog W = .ok v7 W := fun v0 v1 v2 v3 v4 v5 v6 v7 v8 v9 W => by unfold part; simp [go_sem, hc]
  have p8 : ∀ (v0 v1 v2 v3 v4 v5 v6 v7 v8 v9 : Value) (W : World), (part 3 #[v0, v1, v2, v3, v4, v5, v6, v7, v8, v9] 8).run Tryz.prog W = .ok v8 W := fun v0 v1 v2 v3 v4 v5 v6 v7 v8 v9 W => by unfold part; simp [go_sem, ha]
  have p9 : ∀ (v0 v1 v2 v3 v4 v5 v6 v7 v8 v9 : Value) (W : World), (part 3 #[v0, v1, v2, v3, v4, v5, v6, v7, v8, v9] 9).run Tryz.prog W = .ok v9 W := fun v0 v1 v2 v3 v4 v5 v6 v7 v8 v9 W => by unfold part; simp [go_sem, ha]
  have hfl : (Tryz.prog.fieldsOf 77).toList = [{ name := "kind", type := 3, offset := 0, embedded := false, tag := "", pkgPath := "entrepot/value", byteOffset := 0 }, { name := "num", type := 30, offset := 1, embedded := false, tag := "", pkgPath := "entrepot/value", byteOffset := 8 }, { name := "bits", type := 26, offset := 6, embedded := false, tag := "", pkgPath := "entrepot/value", byteOffset := 48 }, { name := "text", type := 9, offset := 7, embedded := false, tag := "", pkgPath := "entrepot/value", byteOffset := 56 }, { name := "keys", type := 3, offset := 8, embedded := false, tag := "", pkgPath := "entrepot/value", byteOffset := 72 }, { name := "items", type := 3, offset := 9, embedded := false, tag := "", pkgPath := "entrepot/value", byteOffset := 80 }] := by kernel_rfl
  have qi : ∀ (x y : Int) (W : World), (Op.equalIn 9999 3 (.int .i64 x) (.int .i64 y)).run Tryz.prog W = .ok (x == y) W := fun x y W => run_equalIn_int W 9998 _ _ _ _ _ (show Tryz.prog.underlying 3 = some (.int .i64) by kernel_rfl)
  have qu : ∀ (x y : Int) (W : World), (Op.equalIn 9999 26 (.int .u64 x) (.int .u64 y)).run Tryz.prog W = .ok (x == y) W := fun x y W => run_equalIn_int W 9998 _ _ _ _ _ (show Tryz.prog.underlying 26 = some (.int .u64) by kernel_rfl)
  have qs : ∀ (x y : ByteArray) (W : World), (Op.equalIn 9999 9 (.string x) (.string y)).run Tryz.prog W = .ok (x.toList == y.toList) W := fun x y W => run_equalIn_string W 9998 _ _ _ (by kernel_rfl)
  have qn : ∀ W, (Op.equalIn 9999 30 (.agg #[.bool g, .int .u64 a0, .int .u64 a1, .int .u64 a2, .int .u64 a3]) (.agg #[.bool h, .int .u64 b0, .int .u64 b1, .int .u64 b2, .int .u64 b3])).run Tryz.prog W = .ok (eq5 g a0 a1 a2 a3 h b0 b1 b2 b3) W := fun W => equalIn_int5_at 9996 _ _ _ _ _ _ _ _ _ _ W
  have n0 : ("kind" : String) ≠ "_" := by decide
  have n1 : ("num" : String) ≠ "_" := by decide
  have n2 : ("bits" : String) ≠ "_" := by decide
  have n3 : ("text" : String) ≠ "_" := by decide
  have n4 : ("keys" : String) ≠ "_" := by decide
  have n5 : ("items" : String) ≠ "_" := by decide
  have key : (Op.equalIn 10000 77 (.agg #[.int .i64 k, .bool g, .int .u64 a0, .int .u64 a1, .int .u64 a2, .int .u64 a3, .int .u64 b, .string s, .int .i64 m, .int .i64 n]) (.agg #[.int .i64 k', .bool h, .int .u64 b0, .int .u64 b1, .int .u64 b2, .int .u64 b3, .int .u64 b', .string s', .int .i64 m', .int .i64 n'])).run Tryz.prog w = .ok (eqO k g a0 a1 a2 a3 b s m n k' h b0 b1 b2 b3 b' s' m' n') w := by
    rw [show (10000 : Nat) = 9999 + 1 from rfl, run_equalIn_struct _ _ _ _ _ hf hs, hfl]
    unfold eqO
    cases h0 : (k == k')
    · simp [Op.eqFields, Sem.run_pure, Sem.run_bind, n0, p0, qi, h0]
    cases h1 : (eq5 g a0 a1 a2 a3 h b0 b1 b2 b3)
    · simp [Op.eqFields, Sem.run_pure, Sem.run_bind, n0, p0, qi, n1, p1, qn, h0, h1]
    cases h2 : (b == b')
    · simp [Op.eqFields, Sem.run_pure, Sem.run_bind, n0, p0, qi, n1, p1, qn, n2, p6, qu, h0, h1, h2]
    cases h3 : (s.toList == s'.toList)
    · simp [Op.eqFields, Sem.run_pure, Sem.run_bind, n0, p0, qi, n1, p1, qn, n2, p6, qu, n3, p7, qs, h0, h1, h2, h3]
    cases h4 : (m == m')
    · simp [Op.eqFields, Sem.run_pure, Sem.run_bind, n0, p0, qi, n1, p1, qn, n2, p6, qu, n3, p7, qs, n4, p8, h0, h1, h2, h3, h4]
    cases h5 : (n == n')
    · simp [Op.eqFields, Sem.run_pure, Sem.run_bind, n0, p0, qi, n1, p1, qn, n2, p6, qu, n3, p7, qs, n4, p8, n5, p9, h0, h1, h2, h3, h4, h5]
    simp [Op.eqFields, Sem.run_pure, Sem.run_bind, n0, p0, qi, n1, p1, qn, n2, p6, qu, n3, p7, qs, n4, p8, n5, p9, h0, h1, h2, h3, h4, h5]
  constructor
  · rw [run_neq_struct, key]; rfl
  · rw [run_eql_struct, key]; rfl
theorem neqO (k : Int) (g : Bool) (a0 a1 a2 a3 b : Int) (s : ByteArray) (m n : Int) (k' : Int) (h : Bool) (b0 b1 b2 b3 b' : Int) (s' : ByteArray) (m' n' : Int) (w : World) :
    (binOp .neq 77 (.agg #[.int .i64 k, .bool g, .int .u64 a0, .int .u64 a1, .int .u64 a2, .int .u64 a3, .int .u64 b, .string s, .int .i64 m, .int .i64 n]) (.agg #[.int .i64 k', .bool h, .int .u64 b0, .int .u64 b1, .int .u64 b2, .int .u64 b3, .int .u64 b', .string s', .int .i64 m', .int .i64 n'])).run Tryz.prog w = .ok (.bool (!eqO k g a0 a1 a2 a3 b s m n k' h b0 b1 b2 b3 b' s' m' n')) w := (neq_outline _ _ _ _ _ _ _ _ _ _ _ _ _ _ _ _ _ _ _ _ w).1
theorem eqlO (k : Int) (g : Bool) (a0 a1 a2 a3 b : Int) (s : ByteArray) (m n : Int) (k' : Int) (h : Bool) (b0 b1 b2 b3 b' : Int) (s' : ByteArray) (m' n' : Int) (w : World) :
    (binOp .eql 77 (.agg #[.int .i64 k, .bool g, .int .u64 a0, .int .u64 a1, .int .u64 a2, .int .u64 a3, .int .u64 b, .string s, .int .i64 m, .int .i64 n]) (.agg #[.int .i64 k', .bool h, .int .u64 b0, .int .u64 b1, .int .u64 b2, .int .u64 b3, .int .u64 b', .string s', .int .i64 m', .int .i64 n'])).run Tryz.prog w = .ok (.bool (eqO k g a0 a1 a2 a3 b s m n k' h b0 b1 b2 b3 b' s' m' n')) w := (neq_outline _ _ _ _ _ _ _ _ _ _ _ _ _ _ _ _ _ _ _ _ w).2
end Go.Proofs.YtfaaagmjmljhiaaGreatDoor
