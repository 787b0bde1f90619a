/-
  Words of 64 bits and natural numbers of four of them: plain facts, no Go; and the small contracts over package nat: Of, ifNothingOver. For every number; no conditions but that the limbs are words.
-/
import Derived.Test.YtbfgkogccfioiaaGreatDoorRows
import Derived.Test.YtbfgkogccfioiaaGreatDoorNatMath
import Derived.WalkKit
import Derived.WalkSpells
import Derived.WalkLawsBesides
import Derived.Lib.Hide
import Derived.Shelf.Spec.BitsCarry
import Derived.Deep.RegionHeld3
import Derived.StillTailTactics
import Derived.RowKit3
import Derived.Laws.Rows
namespace Go.Proofs.YtbfgkogccfioiaaGreatDoor
open Go.RowKit Go.Shelf

/-- A Nat's value, limb by limb. -/
abbrev N4 (x : Nat) : Value := .agg #[.int .u64 (lb 0 x), .int .u64 (lb 1 x), .int .u64 (lb 2 x), .int .u64 (lb 3 x)]

theorem bcell {W w1 : World} (hb : Below W.heap.size W w1) : (∀ b o, b < W.heap.size → w1.cell? ⟨b, o, none⟩ = W.cell? ⟨b, o, none⟩) ∧ (∀ b o, b < W.heap.size → w1.frozen? ⟨b, o, none⟩ = W.frozen? ⟨b, o, none⟩) :=
  ⟨fun b o h => hb.cell (p := ⟨b, o, none⟩) h, fun b o h => hb.frozen (p := ⟨b, o, none⟩) h⟩

/-- 'Below' handed on, step by step. -/
theorem bal {w X : World} (h : Below w.heap.size w X) (o : Obj) : Below w.heap.size w (X.alloc o) := h.alloc h.size o
theorem bdn {w X : World} (h : Below w.heap.size w X) (n : Nat) : Below w.heap.size w (X.drewN n) := ⟨h.os, h.tape, h.output, h.size, h.block⟩
theorem btr {w X Y : World} (h : Below w.heap.size w X) (k : Below X.heap.size X Y) : Below w.heap.size w Y := h.trans (k.mono h.size)
theorem bsc {w X : World} (h : Below w.heap.size w X) {p : Addr} (hp : w.heap.size ≤ p.block) (v : Value) : Below w.heap.size w (X.setCell p v) := h.setCell hp v
theorem bsc4 {w X : World} (h : Below w.heap.size w X) {b : Nat} (hb : w.heap.size ≤ b) (v0 v1 v2 v3 : Value) :
    Below w.heap.size w ((((X.setCell ⟨b, 0, none⟩ v0).setCell ⟨b, 1, none⟩ v1).setCell ⟨b, 2, none⟩ v2).setCell ⟨b, 3, none⟩ v3) :=
  bsc (bsc (bsc (bsc h hb _) hb _) hb _) hb _

/-- The numbers of math/bits.Add64 at this dump. -/
def Tryz.addRen : Ren := ⟨fun | 25 => 146 | n => n, fun | 22 => 22 | n => n, fun n => n⟩
theorem Tryz.lays25 : Lays7.n25 Tryz.prog Tryz.addRen := { mixed := by kernel_rfl, f25 := by kernel_rfl, t22 := by kernel_rfl, a22 := fun _ => by kernel_rfl, z22 := fun _ => by kernel_rfl, v22 := fun _ => by kernel_rfl, i22 := by kernel_rfl }
/-- math/bits.Add64, said of a sum and a carry. -/
theorem add64 {x y c s d : Int} (hx : Word x) (hy : Word y) (hc0 : 0 ≤ c) (hc : c ≤ 1) (hs : Word s) (h : s + 18446744073709551616 * d = x + y + c) (w : World) : (callFunc 146 #[.int .u64 x, .int .u64 y, .int .u64 c]).run Tryz.prog w =
    .ok (.value (.tuple #[.int .u64 s, .int .u64 d])) w := by
  unfold Word at *
  obtain ⟨x, rfl⟩ := Int.eq_ofNat_of_zero_le hx.1
  obtain ⟨y, rfl⟩ := Int.eq_ofNat_of_zero_le hy.1
  obtain ⟨c, rfl⟩ := Int.eq_ofNat_of_zero_le hc0
  have e1 : (((x + y + c) % 18446744073709551616 : Nat) : Int) = s := by omega
  have e2 : (((x + y + c) / 18446744073709551616 : Nat) : Int) = d := by omega
  rw [← e1, ← e2]
  exact Any7.bits_Add64 Tryz.lays25 x y c (by omega) w
/-- A block that holds a number's four words. -/
def Row4 (W : World) (b : Nat) (v0 v1 v2 v3 : Value) : Prop := W.heap[b]? = some (.cells #[v0, v1, v2, v3] 24 (0, 0))
theorem Row4.lt {W : World} {b : Nat} {v0 v1 v2 v3 : Value} (h : Row4 W b v0 v1 v2 v3) : b < W.heap.size := by
  unfold Row4 at h
  exact (Array.getElem?_eq_some_iff.1 h).1
theorem Row4.new (W : World) (v0 v1 v2 v3 : Value) : Row4 (W.alloc (.cells #[v0, v1, v2, v3] 24)) W.heap.size v0 v1 v2 v3 := heap_alloc_new W _
theorem Row4.new' (W : World) {b : Nat} (hb : b = W.heap.size) (v0 v1 v2 v3 : Value) : Row4 (W.alloc (.cells #[v0, v1, v2, v3] 24)) b v0 v1 v2 v3 := by subst hb; exact heap_alloc_new W _
theorem Row4.alloc {W : World} {b : Nat} {v0 v1 v2 v3 : Value} (h : Row4 W b v0 v1 v2 v3) (o : Obj) : Row4 (W.alloc o) b v0 v1 v2 v3 :=
  (Below.heap_alloc W o b h.lt).trans h
theorem Row4.drew {W : World} {b : Nat} {v0 v1 v2 v3 : Value} (h : Row4 W b v0 v1 v2 v3) : Row4 W.drew b v0 v1 v2 v3 := h
theorem Row4.drewN {W : World} {b : Nat} {v0 v1 v2 v3 : Value} (h : Row4 W b v0 v1 v2 v3) (n : Nat) : Row4 (W.drewN n) b v0 v1 v2 v3 := h
theorem Row4.keep {W W' : World} {b : Nat} {v0 v1 v2 v3 : Value} (hb : Below W.heap.size W W') (h : Row4 W b v0 v1 v2 v3) : Row4 W' b v0 v1 v2 v3 :=
  (hb.block b h.lt).trans h
theorem Row4.set {W : World} {b c i : Nat} {v0 v1 v2 v3 : Value} (h : Row4 W b v0 v1 v2 v3) (hne : b ≠ c) (u : Value) : Row4 (W.setCell ⟨c, i, none⟩ u) b v0 v1 v2 v3 := by
  unfold Row4 at *
  rw [← h]
  exact Below.heap_setCell W ⟨c, i, none⟩ u b hne
theorem Row4.parts {W : World} {b : Nat} {v0 v1 v2 v3 : Value} (h : Row4 W b v0 v1 v2 v3) :
    W.cell? ⟨b, 0, none⟩ = some v0 ∧ W.cell? ⟨b, 1, none⟩ = some v1 ∧ W.cell? ⟨b, 2, none⟩ = some v2 ∧ W.cell? ⟨b, 3, none⟩ = some v3 ∧
    W.frozen? ⟨b, 0, none⟩ = false ∧ W.frozen? ⟨b, 1, none⟩ = false ∧ W.frozen? ⟨b, 2, none⟩ = false ∧ W.frozen? ⟨b, 3, none⟩ = false :=
  ⟨cell_of_row W b 0 _ _ _ h, cell_of_row W b 1 _ _ _ h, cell_of_row W b 2 _ _ _ h, cell_of_row W b 3 _ _ _ h, frozen_of_row W b 0 _ _ h, frozen_of_row W b 1 _ _ h, frozen_of_row W b 2 _ _ h, frozen_of_row W b 3 _ _ h⟩
theorem Row4.set4 {W : World} {b : Nat} {v0 v1 v2 v3 : Value} (h : Row4 W b v0 v1 v2 v3) (u0 u1 u2 u3 : Value) :
    Row4 ((((W.setCell ⟨b, 0, none⟩ u0).setCell ⟨b, 1, none⟩ u1).setCell ⟨b, 2, none⟩ u2).setCell ⟨b, 3, none⟩ u3) b u0 u1 u2 u3 := by
  unfold Row4 at *
  have h1 := heap_setCell_same W b 0 _ _ u0 h
  have h2 := heap_setCell_same _ b 1 _ _ u1 h1
  have h3 := heap_setCell_same _ b 2 _ _ u2 h2
  have h4 := heap_setCell_same _ b 3 _ _ u3 h3
  simpa using h4

theorem of_one (v : Int) (w : World) :
    Calls Tryz.prog 96 #[.int .u64 v] w fun e w' => e = .returned (.agg #[.int .u64 v, .int .u64 0, .int .u64 0, .int .u64 0]) ∧ ∃ o : Obj, w' = w.alloc o := by
  go_enter Tryz.func96, Tryz.ntmps96
  go_wp2
  exact bodyPost_ret (v := .agg #[.int .u64 v, .int .u64 0, .int .u64 0, .int .u64 0]) (by simp [results, Tryz.results96, go_sem]) rfl ⟨rfl, _, rfl⟩
theorem of_any (v : Int) (w : World) :
    Calls Tryz.prog 96 #[.int .u64 v] w fun e w' => e = .returned (.agg #[.int .u64 v, .int .u64 0, .int .u64 0, .int .u64 0]) ∧ Below w.heap.size w w' := by
  refine (of_one v w).mono ?_
  rintro e w' ⟨rfl, o, rfl⟩
  exact ⟨rfl, bal (Below.refl _ _) _⟩

theorem over_no (a0 a1 a2 a3 : Int) (w : World) :
    Calls Tryz.prog 147 #[.agg #[.int .u64 a0, .int .u64 a1, .int .u64 a2, .int .u64 a3], .int .u64 0] w fun e w' => e = .returned (.tuple #[.agg #[.int .u64 a0, .int .u64 a1, .int .u64 a2, .int .u64 a3], .bool true]) ∧ Below w.heap.size w w' := by
  go_enter Tryz.func147, Tryz.ntmps147
  go_wp2
  exact bodyPost_ret (v := .tuple #[.agg #[.int .u64 a0, .int .u64 a1, .int .u64 a2, .int .u64 a3], .bool true]) (by simp [results, Tryz.results147, go_sem]) rfl ⟨rfl, bal (bal (Below.refl _ _) _) _⟩
theorem over_yes (a0 a1 a2 a3 c : Int) (hc : (c != 0) = true) (w : World) :
    Calls Tryz.prog 147 #[.agg #[.int .u64 a0, .int .u64 a1, .int .u64 a2, .int .u64 a3], .int .u64 c] w fun e w' => e = .returned (.tuple #[.agg #[.int .u64 0, .int .u64 0, .int .u64 0, .int .u64 0], .bool false]) ∧ Below w.heap.size w w' := by
  go_enter Tryz.func147, Tryz.ntmps147
  go_wp2
  exact bodyPost_ret (v := .tuple #[.agg #[.int .u64 0, .int .u64 0, .int .u64 0, .int .u64 0], .bool false]) (by simp [results, Tryz.results147, go_sem]) rfl ⟨rfl, bal (bal (Below.refl _ _) _) _⟩

end Go.Proofs.YtbfgkogccfioiaaGreatDoor
