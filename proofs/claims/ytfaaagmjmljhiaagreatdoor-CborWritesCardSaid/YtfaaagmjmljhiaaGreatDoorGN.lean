/-
  RefText WholeI WholeJ RefNum NumWalk NumAny RefNear ExWalk ExAny, one behind the other: a claim holds at most 60 files.
-/
import Derived.Test.YtfaaagmjmljhiaaGreatDoorRefLess
import Derived.Test.YtfaaagmjmljhiaaGreatDoorGC
import Derived.Test.YtfaaagmjmljhiaaGreatDoorGD
import Derived.Test.YtfaaagmjmljhiaaGreatDoorGE
import Derived.Lib.ItoaWalk
import Derived.Test.YtfaaagmjmljhiaaGreatDoorRefInt
section
namespace Go.Proofs.YtfaaagmjmljhiaaGreatDoor
open Go.RowKit Go.Shelf

theorem digs_le {x y k : Nat} (h : y ≤ x) (hx : (digs x).length ≤ k) : (digs y).length ≤ k := digs_len.2 (Nat.lt_of_le_of_lt h (digs_len.1 hx))
theorem digs_some {x : Nat} (h : x ≠ 0) : 0 < (digs x).length := by rw [digs_pos h]; simp
/-- One byte as a text. -/
theorem byte_str (z : Nat) (Z : Int) (e : Z = (z : Int)) (W : World) : (convert 24 9 (.slice (some ⟨W.heap.size, 0, none⟩) 1 1)).run Tryz.prog (W.alloc (.cells #[.int .u8 Z] 5)) = .ok (.string ⟨#[UInt8.ofNat z]⟩) (W.alloc (.cells #[.int .u8 Z] 5)) := by
  subst e
  have h := run_convert_bytes_arg (P := Tryz.prog) (W.alloc (.cells #[.int .u8 (z : Int)] 5)) 24 5 (by kernel_rfl) (by kernel_rfl) W.heap.size 0 1 1 [(z : Int)] rfl (fun i hi => by
    obtain rfl : i = 0 := by omega
    exact cell_of_row _ W.heap.size 0 _ _ _ (heap_alloc_new W _)) 9 (by kernel_rfl)
  rw [h]
  rfl
/-- What stands at the head of Print's loop. -/
def PrAt (x y : Nat) (p : ByteArray) : Prop := if y = 0 then p.data.toList = Lib.decDigits x else Lib.decDigits x = Lib.decDigits y ++ p.data.toList
theorem PrAt.start {x : Nat} (h : x ≠ 0) : PrAt x x ⟨#[]⟩ := by unfold PrAt; rw [if_neg h]; simp
theorem PrAt.size {x y : Nat} {p : ByteArray} (h : PrAt x y p) (h0 : y ≠ 0) : p.size < (Lib.decDigits x).length := by
  unfold PrAt at h
  rw [if_neg h0] at h
  rw [h, List.length_append]
  have := dec_pos y
  have e : p.data.toList.length = p.size := by simp
  omega
theorem PrAt.next {x y : Nat} {p : ByteArray} (h : PrAt x y p) (h0 : y ≠ 0) : PrAt x (y / 10) (⟨#[UInt8.ofNat (48 + y % 10)]⟩ ++ p) := by
  unfold PrAt at h ⊢
  rw [if_neg h0] at h
  have e : (⟨#[UInt8.ofNat (48 + y % 10)]⟩ ++ p : ByteArray).data.toList = UInt8.ofNat (48 + y % 10) :: p.data.toList := by simp
  rw [e]
  by_cases h10 : y < 10
  · rw [if_pos (by omega)]; exact (dec_last y h10 _ _ h).symm
  · rw [if_neg (by omega)]; exact dec_cons y (by omega) _ _ h
theorem PrAt.stop {x : Nat} {p : ByteArray} (h : PrAt x 0 p) : p = dstr x := by
  unfold PrAt at h
  rw [if_pos rfl] at h
  exact dstr_of h
theorem dec_of_digs {x k : Nat} (hk : 1 ≤ k) (h : (digs x).length ≤ k) : (Lib.decDigits x).length ≤ 32 * k :=
  dec_len (by omega) (Nat.lt_of_lt_of_le (digs_len.1 h) (Nat.pow_le_pow_left (by decide) (32 * k)))
theorem dec_short {x : Nat} (lx : (digs x).length ≤ 1000) : (Lib.decDigits x).length ≤ 32000 := dec_of_digs (k := 1000) (by decide) lx
theorem digs_of_ten {k n x : Nat} (hx : x < 10 ^ k) (hk : 4 * k ≤ 32 * n) : (digs x).length ≤ n :=
  digs_len.2 (Nat.lt_of_lt_of_le hx (Nat.le_trans (ten_pow_le k) (Nat.pow_le_pow_right (by decide) hk)))
theorem ten_new (W : World) (z : Nat) (hz0 : z ≠ 0) (hz : z < 4294967296) (Z : Int) (e : Z = (z : Int)) : DR (W.alloc (.cells #[.int .u32 Z] 92)) (.slice (some ⟨W.heap.size, 0, none⟩) 1 1) z := by
  subst e
  have ed : digs z = [z] := by rw [digs_pos hz0, Nat.mod_eq_of_lt hz, Nat.div_eq_of_lt hz, digs_zero]
  unfold DR
  rw [ed]
  refine .inr ⟨W.heap.size, 0, 1, rfl, ⟨Nat.le_refl 1, by decide⟩, by simp, fun i hi => ?_⟩
  obtain rfl : i = 0 := by simp at hi; omega
  exact cell_of_row _ W.heap.size 0 _ _ _ (heap_alloc_new W _)
theorem digs_ten {k x : Nat} (hx : x < 10 ^ k) (hk : k ≤ 500) : (digs x).length ≤ 1000 := digs_of_ten (n := 1000) hx (by omega)
end Go.Proofs.YtfaaagmjmljhiaaGreatDoor
end
section
namespace Go.Proofs.YtfaaagmjmljhiaaGreatDoor
open Go.RowKit Go.Shelf
attribute [local go_sem ↓] eql_nat neq_nat eql_int5 neq_int5

end Go.Proofs.YtfaaagmjmljhiaaGreatDoor
end
section
namespace Go.Proofs.YtfaaagmjmljhiaaGreatDoor
open Go.RowKit Go.Shelf
attribute [local go_sem ↓] eql_nat neq_nat eql_int5 neq_int5

/-- An integer's decimals. -/
def zstr (z : Int) : ByteArray := if z < 0 then ⟨#[45]⟩ ++ dstr z.natAbs else dstr z.natAbs
/-- What a text is read as. -/
def parseZ (s : ByteArray) : Option Int :=
  match parseN ⟨(Lib.trimPrefix s.data.toList [45]).toArray⟩ with
  | some v => if Lib.hasPrefix s.data.toList [45] then (if v = 0 then none else some (-(v : Int))) else some (v : Int)
  | none => none
def ZEnd (o : Option Int) : Value := match o with
  | some z => .tuple #[Iz z, .bool true]
  | none => .tuple #[Z5, .bool false]
theorem dstep_lt' {x y : Nat} {c : UInt8} (h : dstep x c = some y) : y < 2 ^ 256 := by
  unfold dstep at h
  split at h
  · rename_i hc; cases h; exact hc.2.2
  · cases h
theorem dfold_lt : ∀ (l : List UInt8) (x y : Nat), x < 2 ^ 256 → dfold l x = some y → y < 2 ^ 256
  | [], x, y, hx, h => by simp only [dfold] at h; cases h; exact hx
  | c :: l, x, y, hx, h => by
    simp only [dfold] at h
    cases hd : dstep x c with
    | none => rw [hd] at h; cases h
    | some z => rw [hd] at h; exact dfold_lt l z y (dstep_lt' hd) h
theorem parseN_lt {s : ByteArray} {y : Nat} (h : parseN s = some y) : y < 2 ^ 256 := by
  unfold parseN at h
  split at h
  · cases h
  · exact dfold_lt _ 0 y (by decide) h
theorem trim_len (s p : List UInt8) : (Lib.trimPrefix s p).length ≤ s.length := by
  unfold Lib.trimPrefix
  split
  · rw [List.length_drop]; omega
  · omega
theorem Iz_pos (v : Nat) (h : v < 18446744073709551616) : Iz (v : Int) = .agg #[.bool false, .int .u64 (v : Int), .int .u64 0, .int .u64 0, .int .u64 0] := by
  rw [Iz_nat]
  unfold I5
  obtain ⟨l0, l1, l2, l3⟩ := lb_small (v := (v : Int)) (by omega) (by omega)
  rw [Int.natAbs_natCast] at l0 l1 l2 l3
  rw [l0, l1, l2, l3]
theorem Iz_minus (v : Nat) (h0 : v ≠ 0) (h : v < 18446744073709551616) : Iz (-(v : Int)) = .agg #[.bool true, .int .u64 (v : Int), .int .u64 0, .int .u64 0, .int .u64 0] := by
  rw [Iz_neg h0]
  unfold I5
  obtain ⟨l0, l1, l2, l3⟩ := lb_small (v := (v : Int)) (by omega) (by omega)
  rw [Int.natAbs_natCast] at l0 l1 l2 l3
  rw [l0, l1, l2, l3]
end Go.Proofs.YtfaaagmjmljhiaaGreatDoor
end
section
namespace Go.Proofs.YtfaaagmjmljhiaaGreatDoor
open Go.RowKit Go.Shelf
attribute [local go_sem ↓] eql_nat neq_nat eql_int5 neq_int5

theorem digs_of_eight {x : Nat} (h : x < 2 ^ 256) : (digs x).length ≤ 1000 := Nat.le_trans (digs_len.2 (show x < 2 ^ (32 * 8) from h)) (by decide)
theorem both55 {W : World} {b c : Nat} {v0 v1 v2 v3 v4 u0 u1 u2 u3 u4 : Value} (h : Row5 W b v0 v1 v2 v3 v4) (k : Row5 W c u0 u1 u2 u3 u4) :
    W.cell? ⟨b, 0, none⟩ = some v0 ∧ W.cell? ⟨b, 1, none⟩ = some v1 ∧ W.cell? ⟨b, 2, none⟩ = some v2 ∧ W.cell? ⟨b, 3, none⟩ = some v3 ∧ W.cell? ⟨b, 4, none⟩ = some v4 ∧ W.cell? ⟨c, 0, none⟩ = some u0 ∧ W.cell? ⟨c, 1, none⟩ = some u1 ∧ W.cell? ⟨c, 2, none⟩ = some u2 ∧ W.cell? ⟨c, 3, none⟩ = some u3 ∧ W.cell? ⟨c, 4, none⟩ = some u4 :=
  ⟨h.parts.1, h.parts.2.1, h.parts.2.2.1, h.parts.2.2.2.1, h.parts.2.2.2.2, k.parts⟩
end Go.Proofs.YtfaaagmjmljhiaaGreatDoor
end
section
namespace Go.Proofs.YtfaaagmjmljhiaaGreatDoor
open Go.RowKit Go.Shelf
open Go.Sort (grow)
attribute [local go_sem ↓] eql_nat neq_nat eql_int5 neq_int5

end Go.Proofs.YtfaaagmjmljhiaaGreatDoor
end
section
namespace Go.Proofs.YtfaaagmjmljhiaaGreatDoor
open Go.RowKit Go.Shelf

theorem rmay_good (g : Bool) (x : Nat) (hx : x < 2 ^ 256) (h : ¬ (g = true ∧ x = 0)) (w : World) :
    Calls Tryz.prog 98 #[I5 g x] w fun e w' => e = .returned (.bool true) ∧ Below w.heap.size w w' := by
  cases g with
  | false => exact rmay_pos _ _ _ _ w
  | true =>
    have hm := rmay_neg (lb 0 x) (lb 1 x) (lb 2 x) (lb 3 x) w
    rw [show eq4 (lb 0 x) (lb 1 x) (lb 2 x) (lb 3 x) 0 0 0 0 = false from (eq4_of x 0 hx (by decide)).trans (decide_eq_false (fun h0 => h ⟨rfl, h0⟩))] at hm
    exact hm
theorem rmay_bad (w : World) :
    Calls Tryz.prog 98 #[I5 true 0] w fun e w' => e = .returned (.bool false) ∧ Below w.heap.size w w' := by
  have hm := rmay_neg 0 0 0 0 w
  rw [show eq4 0 0 0 0 0 0 0 0 = true by decide] at hm
  unfold I5
  simp only [lb_zero]
  exact hm
theorem znum_form (t : Int) : ∃ h y, y < 2 ^ 256 ∧ Znum t = .tuple #[I5 h y, .bool (decide (t.natAbs < 2 ^ 256))] := by
  by_cases ht : t.natAbs < 2 ^ 256
  · rw [decide_eq_true ht, Znum_of ht]; exact ⟨_, _, ht, rfl⟩
  · rw [decide_eq_false ht, Znum_Z5 ht]; exact ⟨false, 0, by decide, by unfold I5; simp only [lb_zero]⟩
theorem rwh_z {s : Value} {v : Nat} (g : Bool) (t : Int) (ht : t = if g then -(v : Int) else v) {w : World} (h : DR w s v) :
    Calls Tryz.prog 179 #[.bool g, s] w fun e w' => e = .returned (Znum t) ∧ Below w.heap.size w w' := by
  have hn : t.natAbs = v := by rw [ht]; split <;> omega
  have := rwh g h
  rw [← ht] at this
  unfold Znum
  rw [hn]
  exact this
theorem rcv_cmpv (x y : Nat) : rcv x y = cmpv (x : Int) (y : Int) := by
  unfold cmpv rcv
  by_cases h : x < y
  · rw [if_pos h, if_pos (by omega)]
  · by_cases h2 : y < x
    · rw [if_neg h, if_pos h2, if_neg (by omega), if_neg (by omega)]
    · rw [if_neg h, if_neg h2, if_neg (by omega), if_pos (by omega)]
theorem cmpv_neg (x y : Int) : cmpv (-x) (-y) = -cmpv x y := by
  unfold cmpv
  split <;> split <;> (try split) <;> (try split) <;> omega
theorem znt_form (k : IntKind) (z : Int) (b : Bool) : Znt k z b = .tuple #[.int k (if b then z else 0), .bool b] := by
  unfold Znt; cases b <;> rfl
theorem eq5_own (c : Bool) (v : Nat) (h : v < 2 ^ 256) : eq5 c (lb 0 v) (lb 1 v) (lb 2 v) (lb 3 v) c (lb 0 v) (lb 1 v) (lb 2 v) (lb 3 v) = true := by
  rw [eq5_int c c v v h h]; exact decide_eq_true ⟨rfl, rfl⟩
end Go.Proofs.YtfaaagmjmljhiaaGreatDoor
end
section
namespace Go.Proofs.YtfaaagmjmljhiaaGreatDoor
open Go.RowKit Go.Shelf
attribute [local go_sem ↓] eql_nat neq_nat eql_int5 neq_int5

theorem ten_at (W : World) (n z : Nat) (Z : Int) (hn : n = W.heap.size) (hz0 : z ≠ 0) (hz : z < 4294967296) (e : Z = (z : Int)) : DR (W.alloc (.cells #[.int .u32 Z] 92)) (.slice (some ⟨n, 0, none⟩) 1 1) z := by
  subst hn; exact ten_new W z hz0 hz Z e
theorem digs_eight {x : Nat} (h : x < 2 ^ 256) : (digs x).length ≤ 1000 := Nat.le_trans (digs_len.2 (show x < 2 ^ (32 * 8) from h)) (by decide)
theorem rpow_53 (w : World) : Calls Tryz.prog 181 #[.int .i64 53] w fun e w' => ∃ s', e = .returned s' ∧ DR w' s' (2 ^ 53) ∧ Below w.heap.size w w' := rpow 53 (by decide) w
end Go.Proofs.YtfaaagmjmljhiaaGreatDoor
end
section
namespace Go.Proofs.YtfaaagmjmljhiaaGreatDoor
open Go.RowKit Go.Shelf
open Go.Sort (grow)
attribute [local go_sem ↓] eql_nat neq_nat eql_int5 neq_int5

end Go.Proofs.YtfaaagmjmljhiaaGreatDoor
end
section
namespace Go.Proofs.YtfaaagmjmljhiaaGreatDoor
open Go.RowKit Go.Shelf

theorem under_same {f : FuncId} {l : Array Value} {w : World} {r : Ending} (h : Calls Tryz.prog f l w fun e w' => e = r ∧ w' = w) : Calls Tryz.prog f l w fun e w' => e = r ∧ Below w.heap.size w w' :=
  h.mono (fun _ _ ⟨a, b⟩ => ⟨a, by rw [b]; exact Below.refl _ _⟩)
theorem rmay_ok (g : Bool) (x : Nat) (hx : x < 2 ^ 256) (h : ¬ (g = true ∧ x = 0)) (w : World) :
    Calls Tryz.prog 98 #[I5 g x] w fun e w' => e = .returned (.bool true) ∧ Below w.heap.size w w' := by
  cases g with
  | false => exact rmay_pos _ _ _ _ w
  | true =>
    have hm := rmay_neg (lb 0 x) (lb 1 x) (lb 2 x) (lb 3 x) w
    rw [show eq4 (lb 0 x) (lb 1 x) (lb 2 x) (lb 3 x) 0 0 0 0 = false from (eq4_of x 0 hx (by decide)).trans (decide_eq_false (fun h0 => h ⟨rfl, h0⟩))] at hm
    exact hm
theorem rmay_none (w : World) :
    Calls Tryz.prog 98 #[I5 true 0] w fun e w' => e = .returned (.bool false) ∧ Below w.heap.size w w' := by
  have hm := rmay_neg 0 0 0 0 w
  rw [show eq4 0 0 0 0 0 0 0 0 = true by decide] at hm
  unfold I5
  simp only [lb_zero]
  exact hm
theorem znum_fm (t : Int) : ∃ h y, y < 2 ^ 256 ∧ Znum t = .tuple #[I5 h y, .bool (decide (t.natAbs < 2 ^ 256))] ∧ (t.natAbs < 2 ^ 256 → y = t.natAbs ∧ ¬ (h = true ∧ y = 0)) := by
  by_cases ht : t.natAbs < 2 ^ 256
  · rw [decide_eq_true ht, Znum_of ht]
    refine ⟨_, _, ht, rfl, fun _ => ⟨rfl, ?_⟩⟩
    rintro ⟨h1, h2⟩
    have := of_decide_eq_true h1
    omega
  · rw [decide_eq_false ht, Znum_Z5 ht]
    exact ⟨false, 0, by decide, by unfold I5; simp only [lb_zero], fun h => absurd h ht⟩
theorem rwh_zn {s : Value} {v : Nat} (g : Bool) (t : Int) (ht : t = if g then -(v : Int) else v) {w : World} (h : DR w s v) :
    Calls Tryz.prog 179 #[.bool g, s] w fun e w' => e = .returned (Znum t) ∧ Below w.heap.size w w' := by
  have hn : t.natAbs = v := by rw [ht]; split <;> omega
  have := rwh g h
  rw [← ht] at this
  unfold Znum
  rw [hn]
  exact this
/-- The target of Near. -/
def nearT (z : Int) (up ex : Bool) : Int := if ex then (if up then eup z else -(eup (-z))) else (if up then rup z else -(rup (-z)))
theorem shift_down {x k : Nat} (hk : 0 < k) (hk2 : k ≤ 300) (lx : (digs x).length ≤ 1000) {s : Value} {w : World} (h : DR w s x) :
    Calls Tryz.prog 163 #[s, .int .i64 (-(k : Int))] w fun e w' => ∃ s2, e = .returned s2 ∧ DR w' s2 (x / 2 ^ k) ∧ Below w.heap.size w w' := by
  have := rshift h lx (-(k : Int)) (by omega) (by omega)
  unfold shv at this
  rw [if_neg (by omega), show (-(-(k : Int))).toNat = k from by omega] at this
  exact this
theorem shift_up {x k : Nat} (hk2 : k ≤ 300) (lx : (digs x).length ≤ 1000) {s : Value} {w : World} (h : DR w s x) :
    Calls Tryz.prog 163 #[s, .int .i64 (k : Int)] w fun e w' => ∃ s2, e = .returned s2 ∧ DR w' s2 (x * 2 ^ k) ∧ Below w.heap.size w w' := by
  have := rshift h lx (k : Int) (by omega) (by omega)
  unfold shv at this
  rw [if_pos (by omega), Int.toNat_natCast] at this
  exact this
theorem eq5_ours (c : Bool) (v : Nat) (h : v < 2 ^ 256) : eq5 c (lb 0 v) (lb 1 v) (lb 2 v) (lb 3 v) c (lb 0 v) (lb 1 v) (lb 2 v) (lb 3 v) = true := by
  rw [eq5_int c c v v h h]; exact decide_eq_true ⟨rfl, rfl⟩
end Go.Proofs.YtfaaagmjmljhiaaGreatDoor
end
