/-
  NatMath NatBase NatAdd NatMul NatCmp NatEq IntBase, one behind the other: a claim holds at most 60 files.
-/
import Derived.RowKit
import Derived.Test.YtebfggiodhaahaaGreatDoorRows
import Derived.WalkKit
import Derived.WalkSpells
import Derived.WalkLawsBesides
import Derived.Lib.Hide
import Derived.Shelf.Spec.BitsCarry
import Derived.Deep.RegionHeld3
import Derived.StillTailTactics
import Derived.RowKit3
import Derived.Laws.Rows
import Derived.Test.YtebfggiodhaahaaGreatDoorShelf
import Derived.Laws.StructEq
import Derived.Deep.DeepCutAuto
section
namespace Go.Proofs.YtebfggiodhaahaaGreatDoor

/-- A word of 64 bits. -/
def Word (x : Int) : Prop := 0 ≤ x ∧ x < 18446744073709551616

/-- The limb number i of a natural number. -/
def lb (i : Nat) (x : Nat) : Int := ((x / 2 ^ (64 * i) % 18446744073709551616 : Nat) : Int)
theorem lb_word (i x : Nat) : Word (lb i x) := by unfold Word lb; omega
theorem lb0 (x : Nat) : lb 0 x = (x : Int) % 18446744073709551616 := by unfold lb; simp
theorem lb1 (x : Nat) : lb 1 x = (x : Int) / 18446744073709551616 % 18446744073709551616 := by unfold lb; simp
theorem lb2 (x : Nat) : lb 2 x = (x : Int) / 340282366920938463463374607431768211456 % 18446744073709551616 := by unfold lb; simp
theorem lb3 (x : Nat) : lb 3 x = (x : Int) / 6277101735386680763835789423207666416102355444464034512896 % 18446744073709551616 := by unfold lb; simp

/-- The number of four limbs. -/
def val4 (a0 a1 a2 a3 : Int) : Int := a0 + 18446744073709551616 * a1 + 340282366920938463463374607431768211456 * a2 + 6277101735386680763835789423207666416102355444464034512896 * a3

theorem lb_sum (x : Nat) (h : x < 2 ^ 256) : val4 (lb 0 x) (lb 1 x) (lb 2 x) (lb 3 x) = x := by
  rw [lb0, lb1, lb2, lb3]; unfold val4
  omega
theorem lb_of {a0 a1 a2 a3 : Int} (h0 : Word a0) (h1 : Word a1) (h2 : Word a2) (h3 : Word a3) {z : Nat} (h : val4 a0 a1 a2 a3 = z) :
    lb 0 z = a0 ∧ lb 1 z = a1 ∧ lb 2 z = a2 ∧ lb 3 z = a3 := by
  unfold Word at *; unfold val4 at h
  rw [lb0, lb1, lb2, lb3]
  refine ⟨by omega, by omega, by omega, by omega⟩
theorem val4_lt {a0 a1 a2 a3 : Int} (h0 : Word a0) (h1 : Word a1) (h2 : Word a2) (h3 : Word a3) : 0 ≤ val4 a0 a1 a2 a3 ∧ val4 a0 a1 a2 a3 < 2 ^ 256 := by
  unfold Word at *; unfold val4
  refine ⟨by omega, by omega⟩
theorem lb_zero (i : Nat) : lb i 0 = 0 := by unfold lb; simp

/-- Every four words are a number. -/
theorem nat_of {a0 a1 a2 a3 : Int} (h0 : Word a0) (h1 : Word a1) (h2 : Word a2) (h3 : Word a3) :
    ∃ x : Nat, x < 2 ^ 256 ∧ val4 a0 a1 a2 a3 = x ∧ lb 0 x = a0 ∧ lb 1 x = a1 ∧ lb 2 x = a2 ∧ lb 3 x = a3 := by
  have hb := val4_lt h0 h1 h2 h3
  refine ⟨(val4 a0 a1 a2 a3).toNat, by omega, by omega, lb_of h0 h1 h2 h3 (by omega)⟩

end Go.Proofs.YtebfggiodhaahaaGreatDoor
end
section
namespace Go.Proofs.YtebfggiodhaahaaGreatDoor
open Go.RowKit Go.Shelf

/-- A Nat's value, limb by limb. -/
abbrev N4 (x : Nat) : Value := .agg #[.int .u64 (lb 0 x), .int .u64 (lb 1 x), .int .u64 (lb 2 x), .int .u64 (lb 3 x)]

theorem bcell {W w1 : World} (hb : Below W.heap.size W w1) : (∀ b o, b < W.heap.size → w1.cell? ⟨b, o, none⟩ = W.cell? ⟨b, o, none⟩) ∧ (∀ b o, b < W.heap.size → w1.frozen? ⟨b, o, none⟩ = W.frozen? ⟨b, o, none⟩) :=
  ⟨fun b o h => hb.cell (p := ⟨b, o, none⟩) h, fun b o h => hb.frozen (p := ⟨b, o, none⟩) h⟩

/-- 'Below' handed on, step by step. -/
theorem bal {w X : World} (h : Below w.heap.size w X) (o : Obj) : Below w.heap.size w (X.alloc o) := h.alloc h.size o
theorem bdn {w X : World} (h : Below w.heap.size w X) (n : Nat) : Below w.heap.size w (X.drewN n) := ⟨h.os, h.tape, h.output, h.size, h.block⟩
theorem btr {w X Y : World} (h : Below w.heap.size w X) (k : Below X.heap.size X Y) : Below w.heap.size w Y := h.trans (k.mono h.size)
theorem bsc {w X : World} (h : Below w.heap.size w X) {p : Addr} (hp : w.heap.size ≤ p.block) (v : Value) : Below w.heap.size w (X.setCell p v) := h.setCell hp v
theorem bsc4 {w X : World} (h : Below w.heap.size w X) {b : Nat} (hb : w.heap.size ≤ b) (v0 v1 v2 v3 : Value) :
    Below w.heap.size w ((((X.setCell ⟨b, 0, none⟩ v0).setCell ⟨b, 1, none⟩ v1).setCell ⟨b, 2, none⟩ v2).setCell ⟨b, 3, none⟩ v3) :=
  bsc (bsc (bsc (bsc h hb _) hb _) hb _) hb _

/-- The numbers of math/bits.Add64 at this dump. -/
def Tryz.addRen : Ren := ⟨fun | 25 => 155 | n => n, fun | 22 => 24 | n => n, fun n => n⟩
theorem Tryz.lays25 : Lays7.n25 Tryz.prog Tryz.addRen := { mixed := by kernel_rfl, f25 := by kernel_rfl, t22 := by kernel_rfl, a22 := fun _ => by kernel_rfl, z22 := fun _ => by kernel_rfl, v22 := fun _ => by kernel_rfl, i22 := by kernel_rfl }
/-- math/bits.Add64, said of a sum and a carry. -/
theorem add64 {x y c s d : Int} (hx : Word x) (hy : Word y) (hc0 : 0 ≤ c) (hc : c ≤ 1) (hs : Word s) (h : s + 18446744073709551616 * d = x + y + c) (w : World) : (callFunc 155 #[.int .u64 x, .int .u64 y, .int .u64 c]).run Tryz.prog w =
    .ok (.value (.tuple #[.int .u64 s, .int .u64 d])) w := by
  unfold Word at *
  obtain ⟨x, rfl⟩ := Int.eq_ofNat_of_zero_le hx.1
  obtain ⟨y, rfl⟩ := Int.eq_ofNat_of_zero_le hy.1
  obtain ⟨c, rfl⟩ := Int.eq_ofNat_of_zero_le hc0
  have e1 : (((x + y + c) % 18446744073709551616 : Nat) : Int) = s := by omega
  have e2 : (((x + y + c) / 18446744073709551616 : Nat) : Int) = d := by omega
  rw [← e1, ← e2]
  exact Any7.bits_Add64 Tryz.lays25 x y c (by omega) w
/-- A block that holds a number's four words. -/
def Row4 (W : World) (b : Nat) (v0 v1 v2 v3 : Value) : Prop := W.heap[b]? = some (.cells #[v0, v1, v2, v3] 26 (0, 0))
theorem Row4.lt {W : World} {b : Nat} {v0 v1 v2 v3 : Value} (h : Row4 W b v0 v1 v2 v3) : b < W.heap.size := by
  unfold Row4 at h
  exact (Array.getElem?_eq_some_iff.1 h).1
theorem Row4.new (W : World) (v0 v1 v2 v3 : Value) : Row4 (W.alloc (.cells #[v0, v1, v2, v3] 26)) W.heap.size v0 v1 v2 v3 := heap_alloc_new W _
theorem Row4.new' (W : World) {b : Nat} (hb : b = W.heap.size) (v0 v1 v2 v3 : Value) : Row4 (W.alloc (.cells #[v0, v1, v2, v3] 26)) b v0 v1 v2 v3 := by subst hb; exact heap_alloc_new W _
theorem Row4.alloc {W : World} {b : Nat} {v0 v1 v2 v3 : Value} (h : Row4 W b v0 v1 v2 v3) (o : Obj) : Row4 (W.alloc o) b v0 v1 v2 v3 :=
  (Below.heap_alloc W o b h.lt).trans h
theorem Row4.drew {W : World} {b : Nat} {v0 v1 v2 v3 : Value} (h : Row4 W b v0 v1 v2 v3) : Row4 W.drew b v0 v1 v2 v3 := h
theorem Row4.drewN {W : World} {b : Nat} {v0 v1 v2 v3 : Value} (h : Row4 W b v0 v1 v2 v3) (n : Nat) : Row4 (W.drewN n) b v0 v1 v2 v3 := h
theorem Row4.keep {W W' : World} {b : Nat} {v0 v1 v2 v3 : Value} (hb : Below W.heap.size W W') (h : Row4 W b v0 v1 v2 v3) : Row4 W' b v0 v1 v2 v3 :=
  (hb.block b h.lt).trans h
theorem Row4.set {W : World} {b c i : Nat} {v0 v1 v2 v3 : Value} (h : Row4 W b v0 v1 v2 v3) (hne : b ≠ c) (u : Value) : Row4 (W.setCell ⟨c, i, none⟩ u) b v0 v1 v2 v3 := by
  unfold Row4 at *
  rw [← h]
  exact Below.heap_setCell W ⟨c, i, none⟩ u b hne
theorem Row4.parts {W : World} {b : Nat} {v0 v1 v2 v3 : Value} (h : Row4 W b v0 v1 v2 v3) :
    W.cell? ⟨b, 0, none⟩ = some v0 ∧ W.cell? ⟨b, 1, none⟩ = some v1 ∧ W.cell? ⟨b, 2, none⟩ = some v2 ∧ W.cell? ⟨b, 3, none⟩ = some v3 ∧
    W.frozen? ⟨b, 0, none⟩ = false ∧ W.frozen? ⟨b, 1, none⟩ = false ∧ W.frozen? ⟨b, 2, none⟩ = false ∧ W.frozen? ⟨b, 3, none⟩ = false :=
  ⟨cell_of_row W b 0 _ _ _ h, cell_of_row W b 1 _ _ _ h, cell_of_row W b 2 _ _ _ h, cell_of_row W b 3 _ _ _ h, frozen_of_row W b 0 _ _ h, frozen_of_row W b 1 _ _ h, frozen_of_row W b 2 _ _ h, frozen_of_row W b 3 _ _ h⟩
theorem Row4.set4 {W : World} {b : Nat} {v0 v1 v2 v3 : Value} (h : Row4 W b v0 v1 v2 v3) (u0 u1 u2 u3 : Value) :
    Row4 ((((W.setCell ⟨b, 0, none⟩ u0).setCell ⟨b, 1, none⟩ u1).setCell ⟨b, 2, none⟩ u2).setCell ⟨b, 3, none⟩ u3) b u0 u1 u2 u3 := by
  unfold Row4 at *
  have h1 := heap_setCell_same W b 0 _ _ u0 h
  have h2 := heap_setCell_same _ b 1 _ _ u1 h1
  have h3 := heap_setCell_same _ b 2 _ _ u2 h2
  have h4 := heap_setCell_same _ b 3 _ _ u3 h3
  simpa using h4

theorem of_one (v : Int) (w : World) :
    Calls Tryz.prog 107 #[.int .u64 v] w fun e w' => e = .returned (.agg #[.int .u64 v, .int .u64 0, .int .u64 0, .int .u64 0]) ∧ ∃ o : Obj, w' = w.alloc o := by
  go_enter Tryz.func107, Tryz.ntmps107
  go_wp2
  exact bodyPost_ret (v := .agg #[.int .u64 v, .int .u64 0, .int .u64 0, .int .u64 0]) (by simp [results, Tryz.results107, go_sem]) rfl ⟨rfl, _, rfl⟩
theorem of_any (v : Int) (w : World) :
    Calls Tryz.prog 107 #[.int .u64 v] w fun e w' => e = .returned (.agg #[.int .u64 v, .int .u64 0, .int .u64 0, .int .u64 0]) ∧ Below w.heap.size w w' := by
  refine (of_one v w).mono ?_
  rintro e w' ⟨rfl, o, rfl⟩
  exact ⟨rfl, bal (Below.refl _ _) _⟩

theorem over_no (a0 a1 a2 a3 : Int) (w : World) :
    Calls Tryz.prog 156 #[.agg #[.int .u64 a0, .int .u64 a1, .int .u64 a2, .int .u64 a3], .int .u64 0] w fun e w' => e = .returned (.tuple #[.agg #[.int .u64 a0, .int .u64 a1, .int .u64 a2, .int .u64 a3], .bool true]) ∧ Below w.heap.size w w' := by
  go_enter Tryz.func156, Tryz.ntmps156
  go_wp2
  exact bodyPost_ret (v := .tuple #[.agg #[.int .u64 a0, .int .u64 a1, .int .u64 a2, .int .u64 a3], .bool true]) (by simp [results, Tryz.results156, go_sem]) rfl ⟨rfl, bal (bal (Below.refl _ _) _) _⟩
theorem over_yes (a0 a1 a2 a3 c : Int) (hc : (c != 0) = true) (w : World) :
    Calls Tryz.prog 156 #[.agg #[.int .u64 a0, .int .u64 a1, .int .u64 a2, .int .u64 a3], .int .u64 c] w fun e w' => e = .returned (.tuple #[.agg #[.int .u64 0, .int .u64 0, .int .u64 0, .int .u64 0], .bool false]) ∧ Below w.heap.size w w' := by
  go_enter Tryz.func156, Tryz.ntmps156
  go_wp2
  exact bodyPost_ret (v := .tuple #[.agg #[.int .u64 0, .int .u64 0, .int .u64 0, .int .u64 0], .bool false]) (by simp [results, Tryz.results156, go_sem]) rfl ⟨rfl, bal (bal (Below.refl _ _) _) _⟩

end Go.Proofs.YtebfggiodhaahaaGreatDoor
end
section
namespace Go.Proofs.YtebfggiodhaahaaGreatDoor
open Go.RowKit Go.Shelf

theorem add_core (a0 a1 a2 a3 b0 b1 b2 b3 s0 s1 s2 s3 c1 c2 c3 c4 : Int) (w : World)
    (e0 : ∀ W, (callFunc 155 #[.int .u64 a0, .int .u64 b0, .int .u64 0]).run Tryz.prog W = .ok (.value (.tuple #[.int .u64 s0, .int .u64 c1])) W)
    (e1 : ∀ W, (callFunc 155 #[.int .u64 a1, .int .u64 b1, .int .u64 c1]).run Tryz.prog W = .ok (.value (.tuple #[.int .u64 s1, .int .u64 c2])) W)
    (e2 : ∀ W, (callFunc 155 #[.int .u64 a2, .int .u64 b2, .int .u64 c2]).run Tryz.prog W = .ok (.value (.tuple #[.int .u64 s2, .int .u64 c3])) W)
    (e3 : ∀ W, (callFunc 155 #[.int .u64 a3, .int .u64 b3, .int .u64 c3]).run Tryz.prog W = .ok (.value (.tuple #[.int .u64 s3, .int .u64 c4])) W) :
    Calls Tryz.prog 219 #[.agg #[.int .u64 a0, .int .u64 a1, .int .u64 a2, .int .u64 a3], .agg #[.int .u64 b0, .int .u64 b1, .int .u64 b2, .int .u64 b3]] w fun e w' =>
      e = (if c4 = 0 then .returned (.tuple #[.agg #[.int .u64 s0, .int .u64 s1, .int .u64 s2, .int .u64 s3], .bool true]) else .returned (.tuple #[.agg #[.int .u64 0, .int .u64 0, .int .u64 0, .int .u64 0], .bool false])) ∧ Below w.heap.size w w' := by
  go_enter Tryz.func219, Tryz.ntmps219
  go_wp2
  refine wp_loop_rounds 5 ?_
  rw [rounds_succ]
  go_wp2
  go_region_held3 (fun w' => w'.cell? ⟨w.heap.size, 0, none⟩ = some (.int .u64 a0) ∧ w'.cell? ⟨w.heap.size + 1, 0, none⟩ = some (.int .u64 b0)) (simp [go_sem, World.cell?_alloc_past]) (fail)
  go_wp2
  rw [rounds_succ]
  go_wp2
  go_region_held3 (fun w' => w'.cell? ⟨w.heap.size, 1, none⟩ = some (.int .u64 a1) ∧ w'.cell? ⟨w.heap.size + 1, 1, none⟩ = some (.int .u64 b1)) (simp [go_sem, World.cell?_alloc_past]) (fail)
  go_wp2
  rw [rounds_succ]
  go_wp2
  go_region_held3 (fun w' => w'.cell? ⟨w.heap.size, 2, none⟩ = some (.int .u64 a2) ∧ w'.cell? ⟨w.heap.size + 1, 2, none⟩ = some (.int .u64 b2)) (simp [go_sem, World.cell?_alloc_past]) (fail)
  go_wp2
  rw [rounds_succ]
  go_wp2
  go_region_held3 (fun w' => w'.cell? ⟨w.heap.size, 3, none⟩ = some (.int .u64 a3) ∧ w'.cell? ⟨w.heap.size + 1, 3, none⟩ = some (.int .u64 b3)) (simp [go_sem, World.cell?_alloc_past]) (fail)
  go_wp2
  clear e0 e1 e2 e3
  rw [rounds_succ]
  go_wp2_with fail
  by_cases hc : c4 = 0
  · subst hc
    refine (over_no _ _ _ _ _).mono ?_
    rintro e w1 ⟨rfl, hb⟩
    obtain ⟨hc, hf⟩ := bcell hb
    go_wp2
    refine bodyPost_ret (v := .tuple #[.agg #[.int .u64 s0, .int .u64 s1, .int .u64 s2, .int .u64 s3], .bool true]) (by simp [results, Tryz.results219, go_sem, hc]) rfl ⟨by simp, bsc4 (btr ?_ hb) (by omega) _ _ _ _⟩
    repeat (first | exact Below.refl _ _ | refine bal ?_ _ | refine Below.drew ?_)
  · refine (over_yes _ _ _ _ _ (by simpa using hc) _).mono ?_
    rintro e w1 ⟨rfl, hb⟩
    obtain ⟨hc, hf⟩ := bcell hb
    go_wp2
    refine bodyPost_ret (v := .tuple #[.agg #[.int .u64 0, .int .u64 0, .int .u64 0, .int .u64 0], .bool false]) (by simp [results, Tryz.results219, go_sem, hc]) rfl ⟨by simp [*], bsc4 (btr ?_ hb) (by omega) _ _ _ _⟩
    repeat (first | exact Below.refl _ _ | refine bal ?_ _ | refine Below.drew ?_)

/-- The sum of two numbers by their limbs: sums and carries. -/
theorem sum_limbs {x y : Nat} (hx : x < 2 ^ 256) (hy : y < 2 ^ 256) : ∃ s0 s1 s2 s3 c1 c2 c3 c4 : Int, Word s0 ∧ Word s1 ∧ Word s2 ∧ Word s3 ∧ (0 ≤ c1 ∧ c1 ≤ 1) ∧ (0 ≤ c2 ∧ c2 ≤ 1) ∧ (0 ≤ c3 ∧ c3 ≤ 1) ∧ (0 ≤ c4 ∧ c4 ≤ 1) ∧
    s0 + 18446744073709551616 * c1 = lb 0 x + lb 0 y + 0 ∧ s1 + 18446744073709551616 * c2 = lb 1 x + lb 1 y + c1 ∧ s2 + 18446744073709551616 * c3 = lb 2 x + lb 2 y + c2 ∧ s3 + 18446744073709551616 * c4 = lb 3 x + lb 3 y + c3 ∧
    (c4 = 0 ↔ x + y < 2 ^ 256) ∧ (c4 = 0 → lb 0 (x + y) = s0 ∧ lb 1 (x + y) = s1 ∧ lb 2 (x + y) = s2 ∧ lb 3 (x + y) = s3) := by
  have X := lb_sum x hx; have Y := lb_sum y hy
  have x0 := lb_word 0 x; have x1 := lb_word 1 x; have x2 := lb_word 2 x; have x3 := lb_word 3 x
  have y0 := lb_word 0 y; have y1 := lb_word 1 y; have y2 := lb_word 2 y; have y3 := lb_word 3 y
  generalize lb 0 x = a0 at *; generalize lb 1 x = a1 at *; generalize lb 2 x = a2 at *; generalize lb 3 x = a3 at *
  generalize lb 0 y = b0 at *; generalize lb 1 y = b1 at *; generalize lb 2 y = b2 at *; generalize lb 3 y = b3 at *
  have key : ∀ a b c : Int, Word a → Word b → 0 ≤ c → c ≤ 1 → ∃ s d : Int, Word s ∧ (0 ≤ d ∧ d ≤ 1) ∧ s + 18446744073709551616 * d = a + b + c := fun a b c ha hb h0 h1 => by
    unfold Word at *
    exact ⟨(a + b + c) % 18446744073709551616, (a + b + c) / 18446744073709551616, by omega, by omega, by omega⟩
  obtain ⟨s0, c1, w0, g1, e0⟩ := key a0 b0 0 x0 y0 (by omega) (by omega)
  obtain ⟨s1, c2, w1, g2, e1⟩ := key a1 b1 c1 x1 y1 g1.1 g1.2
  obtain ⟨s2, c3, w2, g3, e2⟩ := key a2 b2 c2 x2 y2 g2.1 g2.2
  obtain ⟨s3, c4, w3, g4, e3⟩ := key a3 b3 c3 x3 y3 g3.1 g3.2
  have hv := val4_lt w0 w1 w2 w3
  have tot : val4 s0 s1 s2 s3 + 2 ^ 256 * c4 = (x : Int) + y := by
    rw [← X, ← Y]; unfold val4; omega
  refine ⟨s0, s1, s2, s3, c1, c2, c3, c4, w0, w1, w2, w3, g1, g2, g3, g4, e0, e1, e2, e3, ⟨fun h => by omega, fun h => by omega⟩, fun h => lb_of w0 w1 w2 w3 (by push_cast; omega)⟩
/-- nat.Add, where the sum is a number. -/
theorem add_ok (x y : Nat) (hx : x < 2 ^ 256) (hy : y < 2 ^ 256) (h : x + y < 2 ^ 256) (w : World) :
    Calls Tryz.prog 219 #[N4 x, N4 y] w fun e w' => e = .returned (.tuple #[N4 (x + y), .bool true]) ∧ Below w.heap.size w w' := by
  obtain ⟨s0, s1, s2, s3, c1, c2, c3, c4, w0, w1, w2, w3, g1, g2, g3, g4, e0, e1, e2, e3, hi, hl⟩ := sum_limbs hx hy
  have h4 := hi.2 h
  obtain ⟨l0, l1, l2, l3⟩ := hl h4
  refine (add_core _ _ _ _ _ _ _ _ s0 s1 s2 s3 c1 c2 c3 c4 w (fun W => add64 (lb_word _ _) (lb_word _ _) (by omega) (by omega) w0 e0 W) (fun W => add64 (lb_word _ _) (lb_word _ _) g1.1 g1.2 w1 e1 W) (fun W => add64 (lb_word _ _) (lb_word _ _) g2.1 g2.2 w2 e2 W) (fun W => add64 (lb_word _ _) (lb_word _ _) g3.1 g3.2 w3 e3 W)).mono ?_
  rintro e w' ⟨he, hb⟩
  rw [if_pos h4] at he
  exact ⟨by rw [he]; simp only [N4, l0, l1, l2, l3], hb⟩
/-- nat.Add, where it is none. -/
theorem add_over (x y : Nat) (hx : x < 2 ^ 256) (hy : y < 2 ^ 256) (h : ¬ x + y < 2 ^ 256) (w : World) :
    Calls Tryz.prog 219 #[N4 x, N4 y] w fun e w' => e = .returned (.tuple #[N4 0, .bool false]) ∧ Below w.heap.size w w' := by
  obtain ⟨s0, s1, s2, s3, c1, c2, c3, c4, w0, w1, w2, w3, g1, g2, g3, g4, e0, e1, e2, e3, hi, hl⟩ := sum_limbs hx hy
  have h4 : ¬ c4 = 0 := fun k => h (hi.1 k)
  refine (add_core _ _ _ _ _ _ _ _ s0 s1 s2 s3 c1 c2 c3 c4 w (fun W => add64 (lb_word _ _) (lb_word _ _) (by omega) (by omega) w0 e0 W) (fun W => add64 (lb_word _ _) (lb_word _ _) g1.1 g1.2 w1 e1 W) (fun W => add64 (lb_word _ _) (lb_word _ _) g2.1 g2.2 w2 e2 W) (fun W => add64 (lb_word _ _) (lb_word _ _) g3.1 g3.2 w3 e3 W)).mono ?_
  rintro e w' ⟨he, hb⟩
  rw [if_neg h4] at he
  exact ⟨by rw [he]; simp only [N4, lb_zero], hb⟩
end Go.Proofs.YtebfggiodhaahaaGreatDoor
end
section
namespace Go.Proofs.YtebfggiodhaahaaGreatDoor
open Go.RowKit Go.Shelf

set_option maxHeartbeats 400000 in
theorem mul_core (a0 a1 a2 a3 m p0 p1 p2 p3 h0 h1 h2 h3 l0 l1 l2 l3 c0 c1 c2 c3 o1 o2 o3 o4 : Int) (w : World)
    (m0 : ∀ W, Calls Tryz.prog 154 #[.int .u64 a0, .int .u64 m] W fun e w' => e = .returned (.tuple #[.int .u64 h0, .int .u64 l0]) ∧ w' = W)
    (m1 : ∀ W, Calls Tryz.prog 154 #[.int .u64 a1, .int .u64 m] W fun e w' => e = .returned (.tuple #[.int .u64 h1, .int .u64 l1]) ∧ w' = W)
    (m2 : ∀ W, Calls Tryz.prog 154 #[.int .u64 a2, .int .u64 m] W fun e w' => e = .returned (.tuple #[.int .u64 h2, .int .u64 l2]) ∧ w' = W)
    (m3 : ∀ W, Calls Tryz.prog 154 #[.int .u64 a3, .int .u64 m] W fun e w' => e = .returned (.tuple #[.int .u64 h3, .int .u64 l3]) ∧ w' = W)
    (e0 : ∀ W, (callFunc 155 #[.int .u64 l0, .int .u64 0, .int .u64 0]).run Tryz.prog W = .ok (.value (.tuple #[.int .u64 p0, .int .u64 c0])) W)
    (e1 : ∀ W, (callFunc 155 #[.int .u64 l1, .int .u64 o1, .int .u64 0]).run Tryz.prog W = .ok (.value (.tuple #[.int .u64 p1, .int .u64 c1])) W)
    (e2 : ∀ W, (callFunc 155 #[.int .u64 l2, .int .u64 o2, .int .u64 0]).run Tryz.prog W = .ok (.value (.tuple #[.int .u64 p2, .int .u64 c2])) W)
    (e3 : ∀ W, (callFunc 155 #[.int .u64 l3, .int .u64 o3, .int .u64 0]).run Tryz.prog W = .ok (.value (.tuple #[.int .u64 p3, .int .u64 c3])) W)
    (g0 : IntKind.u64.wrap (h0 + c0) = o1)
    (g1 : IntKind.u64.wrap (h1 + c1) = o2)
    (g2 : IntKind.u64.wrap (h2 + c2) = o3)
    (g3 : IntKind.u64.wrap (h3 + c3) = o4) :
    Calls Tryz.prog 111 #[.agg #[.int .u64 a0, .int .u64 a1, .int .u64 a2, .int .u64 a3], .int .u64 m] w fun e w' =>
      e = (if o4 = 0 then .returned (.tuple #[.agg #[.int .u64 p0, .int .u64 p1, .int .u64 p2, .int .u64 p3], .bool true]) else .returned (.tuple #[.agg #[.int .u64 0, .int .u64 0, .int .u64 0, .int .u64 0], .bool false])) ∧ Below w.heap.size w w' := by
  have M0 := Lib.hid m0; clear m0
  have M1 := Lib.hid m1; clear m1
  have M2 := Lib.hid m2; clear m2
  have M3 := Lib.hid m3; clear m3
  go_enter Tryz.func111, Tryz.ntmps111
  go_wp2
  refine wp_loop_rounds 5 ?_
  rw [rounds_succ]
  go_wp2_with (go_at_call 154; refine (M0.out _).mono ?_; rintro e w' ⟨rfl, rfl⟩)
  rw [rounds_succ]
  go_wp2_with (go_at_call 154; refine (M1.out _).mono ?_; rintro e w' ⟨rfl, rfl⟩)
  rw [rounds_succ]
  go_wp2_with (go_at_call 154; refine (M2.out _).mono ?_; rintro e w' ⟨rfl, rfl⟩)
  rw [rounds_succ]
  go_wp2_with (go_at_call 154; refine (M3.out _).mono ?_; rintro e w' ⟨rfl, rfl⟩)
  clear e0 e1 e2 e3 g0 g1 g2 g3
  rw [rounds_succ]
  go_wp2_with fail
  by_cases hc : o4 = 0
  · subst hc
    refine (over_no _ _ _ _ _).mono ?_
    rintro e w1 ⟨rfl, hb⟩
    obtain ⟨hc, hf⟩ := bcell hb
    go_wp2
    refine bodyPost_ret (v := .tuple #[.agg #[.int .u64 p0, .int .u64 p1, .int .u64 p2, .int .u64 p3], .bool true]) (by simp [results, Tryz.results111, go_sem, hc]) rfl ⟨by simp, bsc4 (btr ?_ hb) (by omega) _ _ _ _⟩
    repeat (first | exact Below.refl _ _ | refine bal ?_ _ | refine Below.drew ?_)
  · refine (over_yes _ _ _ _ _ (by simpa using hc) _).mono ?_
    rintro e w1 ⟨rfl, hb⟩
    obtain ⟨hc, hf⟩ := bcell hb
    go_wp2
    refine bodyPost_ret (v := .tuple #[.agg #[.int .u64 0, .int .u64 0, .int .u64 0, .int .u64 0], .bool false]) (by simp [results, Tryz.results111, go_sem, hc]) rfl ⟨by simp [*], bsc4 (btr ?_ hb) (by omega) _ _ _ _⟩
    repeat (first | exact Below.refl _ _ | refine bal ?_ _ | refine Below.drew ?_)

/-- One step of a product by limbs. -/
theorem mul_step {a m o : Int} (ha : Word a) (hm : Word m) (ho : Word o) : ∃ h l p c o' : Int, Word h ∧ Word l ∧ Word p ∧ (0 ≤ c ∧ c ≤ 1) ∧ Word o' ∧ h = ((a.toNat * m.toNat / 18446744073709551616 : Nat) : Int) ∧ l = ((a.toNat * m.toNat % 18446744073709551616 : Nat) : Int) ∧
    p + 18446744073709551616 * c = l + o + 0 ∧ IntKind.u64.wrap (h + c) = o' ∧ p + 18446744073709551616 * o' = a * m + o := by
  unfold Word at *
  obtain ⟨a, rfl⟩ := Int.eq_ofNat_of_zero_le ha.1
  obtain ⟨m, rfl⟩ := Int.eq_ofNat_of_zero_le hm.1
  obtain ⟨o, rfl⟩ := Int.eq_ofNat_of_zero_le ho.1
  have hp : a * m ≤ 18446744073709551615 * 18446744073709551615 := Nat.mul_le_mul (by omega) (by omega)
  refine ⟨_, _, (((a * m % 18446744073709551616 + o) % 18446744073709551616 : Nat) : Int), (((a * m % 18446744073709551616 + o) / 18446744073709551616 : Nat) : Int), ((a * m / 18446744073709551616 + (a * m % 18446744073709551616 + o) / 18446744073709551616 : Nat) : Int), ?_, ?_, ?_, ?_, ?_, rfl, rfl, ?_, ?_, ?_⟩
  all_goals (try simp only [Int.toNat_natCast, IntKind.wrap_u64, ← Int.natCast_mul])
  all_goals generalize a * m = q at *
  all_goals omega

/-- nat.Mul's limbs. -/
theorem mul_limbs {x m : Nat} (hx : x < 2 ^ 256) (hm : m < 18446744073709551616) (w : World) :
    Calls Tryz.prog 111 #[N4 x, .int .u64 m] w fun e w' => (e = if x * m < 2 ^ 256 then .returned (.tuple #[N4 (x * m), .bool true]) else .returned (.tuple #[N4 0, .bool false])) ∧ Below w.heap.size w w' := by
  have X := lb_sum x hx
  have wm : Word (m : Int) := by unfold Word; omega
  have x0 := lb_word 0 x; have x1 := lb_word 1 x; have x2 := lb_word 2 x; have x3 := lb_word 3 x
  obtain ⟨h0, l0, p0, c0, o1, wh0, wl0, wp0, gc0, wo1, eh0, el0, es0, eo0, et0⟩ := mul_step x0 wm (o := 0) (by unfold Word; omega)
  obtain ⟨h1, l1, p1, c1, o2, wh1, wl1, wp1, gc1, wo2, eh1, el1, es1, eo1, et1⟩ := mul_step x1 wm wo1
  obtain ⟨h2, l2, p2, c2, o3, wh2, wl2, wp2, gc2, wo3, eh2, el2, es2, eo2, et2⟩ := mul_step x2 wm wo2
  obtain ⟨h3, l3, p3, c3, o4, wh3, wl3, wp3, gc3, wo4, eh3, el3, es3, eo3, et3⟩ := mul_step x3 wm wo3
  have tot : val4 p0 p1 p2 p3 + 2 ^ 256 * o4 = ((x * m : Nat) : Int) := by
    have e : val4 (lb 0 x) (lb 1 x) (lb 2 x) (lb 3 x) * m = x * m := by rw [X]
    rw [Int.natCast_mul, ← e]
    unfold val4
    rw [Int.add_mul, Int.add_mul, Int.add_mul, Int.mul_assoc, Int.mul_assoc, Int.mul_assoc]
    omega
  have hv := val4_lt wp0 wp1 wp2 wp3
  have mul_at : ∀ i, ∀ W, Calls Tryz.prog 154 #[.int .u64 (lb i x), .int .u64 m] W fun e w' => e = .returned (.tuple #[.int .u64 (((lb i x).toNat * m / 18446744073709551616 : Nat) : Int), .int .u64 (((lb i x).toNat * m % 18446744073709551616 : Nat) : Int)]) ∧ w' = W := fun i W => by
    have := lb_word i x
    obtain ⟨n, hn⟩ := Int.eq_ofNat_of_zero_le this.1
    rw [hn] at this ⊢
    exact Tryz.bits_Mul64 n m (by have := this.2; omega) hm W
  subst eh0 el0 eh1 el1 eh2 el2 eh3 el3
  refine (mul_core _ _ _ _ m p0 p1 p2 p3 _ _ _ _ _ _ _ _ c0 c1 c2 c3 o1 o2 o3 o4 w (mul_at 0) (mul_at 1) (mul_at 2) (mul_at 3) (fun W => add64 wl0 (by unfold Word; omega) (by omega) (by omega) wp0 es0 W) (fun W => add64 wl1 wo1 (by omega) (by omega) wp1 es1 W) (fun W => add64 wl2 wo2 (by omega) (by omega) wp2 es2 W) (fun W => add64 wl3 wo3 (by omega) (by omega) wp3 es3 W) eo0 eo1 eo2 eo3).mono ?_
  rintro e w' ⟨he, hb⟩
  refine ⟨?_, hb⟩
  by_cases ho : o4 = 0
  · rw [if_pos ho] at he
    have hz : val4 p0 p1 p2 p3 = ((x * m : Nat) : Int) := by omega
    obtain ⟨z0, z1, z2, z3⟩ := lb_of wp0 wp1 wp2 wp3 hz
    rw [if_pos (by omega), he]
    simp only [N4, z0, z1, z2, z3]
  · rw [if_neg ho] at he
    have : 1 ≤ o4 := by have := wo4.1; omega
    rw [if_neg (by omega), he]
    simp only [N4, lb_zero]
theorem mul_ok (x m : Nat) (hx : x < 2 ^ 256) (hm : m < 18446744073709551616) (h : x * m < 2 ^ 256) (w : World) :
    Calls Tryz.prog 111 #[N4 x, .int .u64 m] w fun e w' => e = .returned (.tuple #[N4 (x * m), .bool true]) ∧ Below w.heap.size w w' := by
  refine (mul_limbs hx hm w).mono ?_
  rintro e w' ⟨he, hb⟩
  rw [if_pos h] at he
  exact ⟨he, hb⟩
theorem mul_over (x m : Nat) (hx : x < 2 ^ 256) (hm : m < 18446744073709551616) (h : ¬ x * m < 2 ^ 256) (w : World) :
    Calls Tryz.prog 111 #[N4 x, .int .u64 m] w fun e w' => e = .returned (.tuple #[N4 0, .bool false]) ∧ Below w.heap.size w w' := by
  refine (mul_limbs hx hm w).mono ?_
  rintro e w' ⟨he, hb⟩
  rw [if_neg h] at he
  exact ⟨he, hb⟩

end Go.Proofs.YtebfggiodhaahaaGreatDoor
end
section
namespace Go.Proofs.YtebfggiodhaahaaGreatDoor
open Go.RowKit Go.Shelf

/-- -1, 0, 1. -/
def cmpv (x y : Int) : Int := if x < y then -1 else if x = y then 0 else 1

end Go.Proofs.YtebfggiodhaahaaGreatDoor
end
section
namespace Go.Proofs.YtebfggiodhaahaaGreatDoor
open Go.RowKit Go.Shelf

/-- Are the four words the same? -/
def eq4 (a0 a1 a2 a3 b0 b1 b2 b3 : Int) : Bool := a0 == b0 && (a1 == b1 && (a2 == b2 && a3 == b3))

theorem info_elem : ∀ w, (Go.sizeOf 24).run Tryz.prog w = .ok 1 w := fun _ => by kernel_rfl

theorem equalIn_nat (a0 a1 a2 a3 b0 b1 b2 b3 : Int) (w : World) :
    (Op.equalIn 10000 26 (.agg #[.int .u64 a0, .int .u64 a1, .int .u64 a2, .int .u64 a3]) (.agg #[.int .u64 b0, .int .u64 b1, .int .u64 b2, .int .u64 b3])).run Tryz.prog w = .ok (eq4 a0 a1 a2 a3 b0 b1 b2 b3) w := by
  have hu : Tryz.prog.underlying 26 = some (.array 4 24) := by kernel_rfl
  have he : Tryz.prog.underlying 24 = some (.int .u64) := by kernel_rfl
  have ha : ∀ W, (isAgg 24).run Tryz.prog W = .ok false W := fun _ => by kernel_rfl
  have hp : ∀ (xs : Array Value) (i : Nat) (v : Value) (W : World), xs[i]? = some v → (part 24 xs i).run Tryz.prog W = .ok v W := fun xs i v W h => by
    unfold part; simp [go_sem, ha, h]
  rw [show (10000 : Nat) = 9999 + 1 from rfl, Op.equalIn]
  simp only [Sem.run_bind, run_underlying hu, Result.andThen_ok, info_elem]
  unfold eq4
  have qe : ∀ (x y : Int) (W : World), (Op.equalIn 9999 24 (.int .u64 x) (.int .u64 y)).run Tryz.prog W = .ok (x == y) W := fun x y W => run_equalIn_int W 9998 _ _ _ _ _ he
  have pa0 := fun W => hp (#[.int .u64 a0, .int .u64 a1, .int .u64 a2, .int .u64 a3]) (0 * 1) (.int .u64 a0) W rfl
  have pa1 := fun W => hp (#[.int .u64 a0, .int .u64 a1, .int .u64 a2, .int .u64 a3]) (1 * 1) (.int .u64 a1) W rfl
  have pa2 := fun W => hp (#[.int .u64 a0, .int .u64 a1, .int .u64 a2, .int .u64 a3]) (2 * 1) (.int .u64 a2) W rfl
  have pa3 := fun W => hp (#[.int .u64 a0, .int .u64 a1, .int .u64 a2, .int .u64 a3]) (3 * 1) (.int .u64 a3) W rfl
  have pb0 := fun W => hp (#[.int .u64 b0, .int .u64 b1, .int .u64 b2, .int .u64 b3]) (0 * 1) (.int .u64 b0) W rfl
  have pb1 := fun W => hp (#[.int .u64 b0, .int .u64 b1, .int .u64 b2, .int .u64 b3]) (1 * 1) (.int .u64 b1) W rfl
  have pb2 := fun W => hp (#[.int .u64 b0, .int .u64 b1, .int .u64 b2, .int .u64 b3]) (2 * 1) (.int .u64 b2) W rfl
  have pb3 := fun W => hp (#[.int .u64 b0, .int .u64 b1, .int .u64 b2, .int .u64 b3]) (3 * 1) (.int .u64 b3) W rfl
  rw [Std.Legacy.Range.forIn_eq_forIn_range']
  rw [show List.range' 0 (Std.Legacy.Range.size [:4]) 1 = [0, 1, 2, 3] from rfl]
  simp only [List.forIn_cons, List.forIn_nil, Sem.run_bind, pa0, pb0, qe, Result.andThen_ok]
  cases h0 : (a0 == b0)
  · simp [Sem.run_pure]
  cases h1 : (a1 == b1)
  · simp [Sem.run_pure, Sem.run_bind, pa1, pb1, qe, h1]
  cases h2 : (a2 == b2)
  · simp [Sem.run_pure, Sem.run_bind, pa1, pb1, qe, h1, pa2, pb2, h2]
  cases h3 : (a3 == b3)
  · simp [Sem.run_pure, Sem.run_bind, pa1, pb1, qe, h1, pa2, pb2, h2, pa3, pb3, h3]
  · simp [Sem.run_pure, Sem.run_bind, pa1, pb1, qe, h1, pa2, pb2, h2, pa3, pb3, h3]

theorem eql_nat (a0 a1 a2 a3 b0 b1 b2 b3 : Int) (w : World) :
    (binOp .eql 26 (.agg #[.int .u64 a0, .int .u64 a1, .int .u64 a2, .int .u64 a3]) (.agg #[.int .u64 b0, .int .u64 b1, .int .u64 b2, .int .u64 b3])).run Tryz.prog w = .ok (.bool (eq4 a0 a1 a2 a3 b0 b1 b2 b3)) w := by
  rw [run_eql_struct, equalIn_nat]; rfl
theorem neq_nat (a0 a1 a2 a3 b0 b1 b2 b3 : Int) (w : World) :
    (binOp .neq 26 (.agg #[.int .u64 a0, .int .u64 a1, .int .u64 a2, .int .u64 a3]) (.agg #[.int .u64 b0, .int .u64 b1, .int .u64 b2, .int .u64 b3])).run Tryz.prog w = .ok (.bool (!eq4 a0 a1 a2 a3 b0 b1 b2 b3)) w := by
  rw [run_neq_struct, equalIn_nat]; rfl
/-- Two numbers are the same, if their limbs are. -/
theorem eq4_nat (x y : Nat) (hx : x < 2 ^ 256) (hy : y < 2 ^ 256) : eq4 (lb 0 x) (lb 1 x) (lb 2 x) (lb 3 x) (lb 0 y) (lb 1 y) (lb 2 y) (lb 3 y) = decide (x = y) := by
  have X := lb_sum x hx; have Y := lb_sum y hy
  unfold eq4
  by_cases h : x = y
  · subst h; simp
  · simp only [h, decide_false]
    have : ¬ (lb 0 x = lb 0 y ∧ lb 1 x = lb 1 y ∧ lb 2 x = lb 2 y ∧ lb 3 x = lb 3 y) := by
      rintro ⟨h0, h1, h2, h3⟩
      rw [h0, h1, h2, h3, Y] at X
      exact h (by omega)
    simpa using this
theorem eq4_of (x y : Nat) (hx : x < 2 ^ 256) (hy : y < 18446744073709551616) : eq4 (lb 0 x) (lb 1 x) (lb 2 x) (lb 3 x) y 0 0 0 = decide (x = y) := by
  have h := eq4_nat x y hx (by omega)
  have e0 : lb 0 y = y := by rw [lb0]; omega
  have e1 : lb 1 y = 0 := by rw [lb1]; omega
  have e2 : lb 2 y = 0 := by rw [lb2]; omega
  have e3 : lb 3 y = 0 := by rw [lb3]; omega
  rwa [e0, e1, e2, e3] at h

end Go.Proofs.YtebfggiodhaahaaGreatDoor
end
section
namespace Go.Proofs.YtebfggiodhaahaaGreatDoor
open Go.RowKit Go.Shelf

/-- A whole number's value: its sign, and its limbs. -/
abbrev I5 (g : Bool) (x : Nat) : Value := .agg #[.bool g, .int .u64 (lb 0 x), .int .u64 (lb 1 x), .int .u64 (lb 2 x), .int .u64 (lb 3 x)]
abbrev Z5 : Value := .agg #[.bool false, .int .u64 0, .int .u64 0, .int .u64 0, .int .u64 0]

/-- A block that holds a whole number. -/
def Row5 (W : World) (b : Nat) (g v0 v1 v2 v3 : Value) : Prop := W.heap[b]? = some (.cells #[g, v0, v1, v2, v3] 28 (0, 0))
theorem Row5.lt {W : World} {b : Nat} {g v0 v1 v2 v3 : Value} (h : Row5 W b g v0 v1 v2 v3) : b < W.heap.size := by
  unfold Row5 at h
  exact (Array.getElem?_eq_some_iff.1 h).1
theorem Row5.new (W : World) (g v0 v1 v2 v3 : Value) : Row5 (W.alloc (.cells #[g, v0, v1, v2, v3] 28)) W.heap.size g v0 v1 v2 v3 := heap_alloc_new W _
theorem Row5.new' (W : World) {b : Nat} (hb : b = W.heap.size) (g v0 v1 v2 v3 : Value) : Row5 (W.alloc (.cells #[g, v0, v1, v2, v3] 28)) b g v0 v1 v2 v3 := by subst hb; exact heap_alloc_new W _
theorem Row5.alloc {W : World} {b : Nat} {g v0 v1 v2 v3 : Value} (h : Row5 W b g v0 v1 v2 v3) (o : Obj) : Row5 (W.alloc o) b g v0 v1 v2 v3 :=
  (Below.heap_alloc W o b h.lt).trans h
theorem Row5.drew {W : World} {b : Nat} {g v0 v1 v2 v3 : Value} (h : Row5 W b g v0 v1 v2 v3) : Row5 W.drew b g v0 v1 v2 v3 := h
theorem Row5.drewN {W : World} {b : Nat} {g v0 v1 v2 v3 : Value} (h : Row5 W b g v0 v1 v2 v3) (n : Nat) : Row5 (W.drewN n) b g v0 v1 v2 v3 := h
theorem Row5.keep {W W' : World} {b : Nat} {g v0 v1 v2 v3 : Value} (hb : Below W.heap.size W W') (h : Row5 W b g v0 v1 v2 v3) : Row5 W' b g v0 v1 v2 v3 :=
  (hb.block b h.lt).trans h
theorem Row5.set {W : World} {b c i : Nat} {g v0 v1 v2 v3 : Value} (h : Row5 W b g v0 v1 v2 v3) (hne : b ≠ c) (u : Value) : Row5 (W.setCell ⟨c, i, none⟩ u) b g v0 v1 v2 v3 := by
  unfold Row5 at *
  rw [← h]
  exact Below.heap_setCell W ⟨c, i, none⟩ u b hne
theorem Row5.set5 {W : World} {b : Nat} {g v0 v1 v2 v3 : Value} (h : Row5 W b g v0 v1 v2 v3) (u u0 u1 u2 u3 : Value) :
    Row5 (((((W.setCell ⟨b, 0, none⟩ u).setCell ⟨b, 1, none⟩ u0).setCell ⟨b, 2, none⟩ u1).setCell ⟨b, 3, none⟩ u2).setCell ⟨b, 4, none⟩ u3) b u u0 u1 u2 u3 := by
  unfold Row5 at *
  have h0 := heap_setCell_same W b 0 _ _ u h
  have h1 := heap_setCell_same _ b 1 _ _ u0 h0
  have h2 := heap_setCell_same _ b 2 _ _ u1 h1
  have h3 := heap_setCell_same _ b 3 _ _ u2 h2
  have h4 := heap_setCell_same _ b 4 _ _ u3 h3
  simpa using h4
theorem Row5.sign {W : World} {b : Nat} {g v0 v1 v2 v3 : Value} (h : Row5 W b g v0 v1 v2 v3) (u : Value) : Row5 (W.setCell ⟨b, 0, none⟩ u) b u v0 v1 v2 v3 := by
  unfold Row5 at *
  have h0 := heap_setCell_same W b 0 _ _ u h
  simpa using h0
theorem Row5.parts {W : World} {b : Nat} {g v0 v1 v2 v3 : Value} (h : Row5 W b g v0 v1 v2 v3) :
    W.cell? ⟨b, 0, none⟩ = some g ∧ W.cell? ⟨b, 1, none⟩ = some v0 ∧ W.cell? ⟨b, 2, none⟩ = some v1 ∧ W.cell? ⟨b, 3, none⟩ = some v2 ∧ W.cell? ⟨b, 4, none⟩ = some v3 :=
  ⟨cell_of_row W b 0 _ _ _ h, cell_of_row W b 1 _ _ _ h, cell_of_row W b 2 _ _ _ h, cell_of_row W b 3 _ _ _ h, cell_of_row W b 4 _ _ _ h⟩
theorem Row5.free {W : World} {b : Nat} {g v0 v1 v2 v3 : Value} (h : Row5 W b g v0 v1 v2 v3) :
    W.frozen? ⟨b, 0, none⟩ = false ∧ W.frozen? ⟨b, 1, none⟩ = false ∧ W.frozen? ⟨b, 2, none⟩ = false ∧ W.frozen? ⟨b, 3, none⟩ = false ∧ W.frozen? ⟨b, 4, none⟩ = false :=
  ⟨frozen_of_row W b 0 _ _ h, frozen_of_row W b 1 _ _ h, frozen_of_row W b 2 _ _ h, frozen_of_row W b 3 _ _ h, frozen_of_row W b 4 _ _ h⟩
theorem bsc5 {w X : World} (h : Below w.heap.size w X) {b : Nat} (hb : w.heap.size ≤ b) (u v0 v1 v2 v3 : Value) :
    Below w.heap.size w (((((X.setCell ⟨b, 0, none⟩ u).setCell ⟨b, 1, none⟩ v0).setCell ⟨b, 2, none⟩ v1).setCell ⟨b, 3, none⟩ v2).setCell ⟨b, 4, none⟩ v3) :=
  bsc (bsc (bsc (bsc (bsc h hb _) hb _) hb _) hb _) hb _
theorem Row4.four {W : World} {b : Nat} {v0 v1 v2 v3 : Value} (h : Row4 W b v0 v1 v2 v3) :
    W.cell? ⟨b, 0, none⟩ = some v0 ∧ W.cell? ⟨b, 1, none⟩ = some v1 ∧ W.cell? ⟨b, 2, none⟩ = some v2 ∧ W.cell? ⟨b, 3, none⟩ = some v3 :=
  ⟨h.parts.1, h.parts.2.1, h.parts.2.2.1, h.parts.2.2.2.1⟩

theorem Row4.free4 {W : World} {b : Nat} {v0 v1 v2 v3 : Value} (h : Row4 W b v0 v1 v2 v3) :
    W.frozen? ⟨b, 0, none⟩ = false ∧ W.frozen? ⟨b, 1, none⟩ = false ∧ W.frozen? ⟨b, 2, none⟩ = false ∧ W.frozen? ⟨b, 3, none⟩ = false :=
  h.parts.2.2.2.2

theorem equalIn_nat_at (d : Nat) (a0 a1 a2 a3 b0 b1 b2 b3 : Int) (w : World) :
    (Op.equalIn (d + 2) 26 (.agg #[.int .u64 a0, .int .u64 a1, .int .u64 a2, .int .u64 a3]) (.agg #[.int .u64 b0, .int .u64 b1, .int .u64 b2, .int .u64 b3])).run Tryz.prog w = .ok (eq4 a0 a1 a2 a3 b0 b1 b2 b3) w := by
  have hu : Tryz.prog.underlying 26 = some (.array 4 24) := by kernel_rfl
  have he : Tryz.prog.underlying 24 = some (.int .u64) := by kernel_rfl
  have ha : ∀ W, (isAgg 24).run Tryz.prog W = .ok false W := fun _ => by kernel_rfl
  have hp : ∀ (xs : Array Value) (i : Nat) (v : Value) (W : World), xs[i]? = some v → (part 24 xs i).run Tryz.prog W = .ok v W := fun xs i v W h => by
    unfold part; simp [go_sem, ha, h]
  rw [show d + 2 = (d + 1) + 1 from rfl, Op.equalIn]
  simp only [Sem.run_bind, run_underlying hu, Result.andThen_ok, info_elem]
  unfold eq4
  have qe : ∀ (x y : Int) (W : World), (Op.equalIn (d + 1) 24 (.int .u64 x) (.int .u64 y)).run Tryz.prog W = .ok (x == y) W := fun x y W => run_equalIn_int W d _ _ _ _ _ he
  have pa0 := fun W => hp (#[.int .u64 a0, .int .u64 a1, .int .u64 a2, .int .u64 a3]) (0 * 1) (.int .u64 a0) W rfl
  have pa1 := fun W => hp (#[.int .u64 a0, .int .u64 a1, .int .u64 a2, .int .u64 a3]) (1 * 1) (.int .u64 a1) W rfl
  have pa2 := fun W => hp (#[.int .u64 a0, .int .u64 a1, .int .u64 a2, .int .u64 a3]) (2 * 1) (.int .u64 a2) W rfl
  have pa3 := fun W => hp (#[.int .u64 a0, .int .u64 a1, .int .u64 a2, .int .u64 a3]) (3 * 1) (.int .u64 a3) W rfl
  have pb0 := fun W => hp (#[.int .u64 b0, .int .u64 b1, .int .u64 b2, .int .u64 b3]) (0 * 1) (.int .u64 b0) W rfl
  have pb1 := fun W => hp (#[.int .u64 b0, .int .u64 b1, .int .u64 b2, .int .u64 b3]) (1 * 1) (.int .u64 b1) W rfl
  have pb2 := fun W => hp (#[.int .u64 b0, .int .u64 b1, .int .u64 b2, .int .u64 b3]) (2 * 1) (.int .u64 b2) W rfl
  have pb3 := fun W => hp (#[.int .u64 b0, .int .u64 b1, .int .u64 b2, .int .u64 b3]) (3 * 1) (.int .u64 b3) W rfl
  rw [Std.Legacy.Range.forIn_eq_forIn_range']
  rw [show List.range' 0 (Std.Legacy.Range.size [:4]) 1 = [0, 1, 2, 3] from rfl]
  simp only [List.forIn_cons, List.forIn_nil, Sem.run_bind, pa0, pb0, qe, Result.andThen_ok]
  cases h0 : (a0 == b0)
  · simp [Sem.run_pure]
  cases h1 : (a1 == b1)
  · simp [Sem.run_pure, Sem.run_bind, pa1, pb1, qe, h1]
  cases h2 : (a2 == b2)
  · simp [Sem.run_pure, Sem.run_bind, pa1, pb1, qe, h1, pa2, pb2, h2]
  cases h3 : (a3 == b3)
  · simp [Sem.run_pure, Sem.run_bind, pa1, pb1, qe, h1, pa2, pb2, h2, pa3, pb3, h3]
  · simp [Sem.run_pure, Sem.run_bind, pa1, pb1, qe, h1, pa2, pb2, h2, pa3, pb3, h3]

/-- Are the sign and the four words the same? -/
def eq5 (g : Bool) (a0 a1 a2 a3 : Int) (h : Bool) (b0 b1 b2 b3 : Int) : Bool := g == h && eq4 a0 a1 a2 a3 b0 b1 b2 b3
theorem equalIn_int5 (g h : Bool) (a0 a1 a2 a3 b0 b1 b2 b3 : Int) (w : World) :
    (Op.equalIn 10000 28 (.agg #[.bool g, .int .u64 a0, .int .u64 a1, .int .u64 a2, .int .u64 a3]) (.agg #[.bool h, .int .u64 b0, .int .u64 b1, .int .u64 b2, .int .u64 b3])).run Tryz.prog w = .ok (eq5 g a0 a1 a2 a3 h b0 b1 b2 b3) w := by
  have hf : Tryz.prog.underlying 28 = some (.struct (Tryz.prog.fieldsOf 28)) := by kernel_rfl
  have hs : Tryz.prog.stoodInHeld 28 = false := by kernel_rfl
  have p0 : ∀ (u v0 v1 v2 v3 : Value) (W : World), (part 4 #[u, v0, v1, v2, v3] 0).run Tryz.prog W = .ok u W := fun u v0 v1 v2 v3 W => by
    have hb : ∀ W, (isAgg 4).run Tryz.prog W = .ok false W := fun _ => by kernel_rfl
    unfold part; simp [go_sem, hb]
  have p1 : ∀ (u v0 v1 v2 v3 : Value) (W : World), (part 26 #[u, v0, v1, v2, v3] 1).run Tryz.prog W = .ok (.agg #[v0, v1, v2, v3]) W := fun u v0 v1 v2 v3 W => by
    have hb : ∀ W, (isAgg 26).run Tryz.prog W = .ok true W := fun _ => by kernel_rfl
    have hz : ∀ W, (Go.sizeOf 26).run Tryz.prog W = .ok 4 W := fun _ => by kernel_rfl
    unfold part; simp [go_sem, hb, hz]
  rw [show (10000 : Nat) = 9999 + 1 from rfl, run_equalIn_struct _ _ _ _ _ hf hs]
  have hfl : (Tryz.prog.fieldsOf 28).toList = [{ name := "Neg", type := 4, offset := 0, embedded := false, tag := "", pkgPath := "", byteOffset := 0 }, { name := "N", type := 26, offset := 1, embedded := false, tag := "", pkgPath := "", byteOffset := 8 }] := by kernel_rfl
  rw [hfl]
  have qb : ∀ W, (Op.equalIn 9999 4 (.bool g) (.bool h)).run Tryz.prog W = .ok (g == h) W := fun W => run_equalIn_bool' W 9998 _ _ _ (by kernel_rfl)
  have qn : ∀ W, (Op.equalIn 9999 26 (.agg #[.int .u64 a0, .int .u64 a1, .int .u64 a2, .int .u64 a3]) (.agg #[.int .u64 b0, .int .u64 b1, .int .u64 b2, .int .u64 b3])).run Tryz.prog W = .ok (eq4 a0 a1 a2 a3 b0 b1 b2 b3) W := fun W => equalIn_nat_at 9997 _ _ _ _ _ _ _ _ W
  unfold eq5
  have n1 : ("Neg" : String) ≠ "_" := by decide
  have n2 : ("N" : String) ≠ "_" := by decide
  simp only [Op.eqFields, ne_eq, n1, n2, not_false_eq_true, if_true, Sem.run_bind, p0, qb, Result.andThen_ok]
  cases g == h <;> cases he : eq4 a0 a1 a2 a3 b0 b1 b2 b3 <;> simp [Sem.run_pure, Sem.run_bind, p1, qn, he]
theorem eql_int5 (g h : Bool) (a0 a1 a2 a3 b0 b1 b2 b3 : Int) (w : World) :
    (binOp .eql 28 (.agg #[.bool g, .int .u64 a0, .int .u64 a1, .int .u64 a2, .int .u64 a3]) (.agg #[.bool h, .int .u64 b0, .int .u64 b1, .int .u64 b2, .int .u64 b3])).run Tryz.prog w = .ok (.bool (eq5 g a0 a1 a2 a3 h b0 b1 b2 b3)) w := by
  rw [run_eql_struct, equalIn_int5]; rfl
theorem neq_int5 (g h : Bool) (a0 a1 a2 a3 b0 b1 b2 b3 : Int) (w : World) :
    (binOp .neq 28 (.agg #[.bool g, .int .u64 a0, .int .u64 a1, .int .u64 a2, .int .u64 a3]) (.agg #[.bool h, .int .u64 b0, .int .u64 b1, .int .u64 b2, .int .u64 b3])).run Tryz.prog w = .ok (.bool (!eq5 g a0 a1 a2 a3 h b0 b1 b2 b3)) w := by
  rw [run_neq_struct, equalIn_int5]; rfl
theorem eq5_int (g h : Bool) (x y : Nat) (hx : x < 2 ^ 256) (hy : y < 2 ^ 256) : eq5 g (lb 0 x) (lb 1 x) (lb 2 x) (lb 3 x) h (lb 0 y) (lb 1 y) (lb 2 y) (lb 3 y) = decide (g = h ∧ x = y) := by
  unfold eq5
  rw [eq4_nat x y hx hy]
  cases g <;> cases h <;> simp

end Go.Proofs.YtebfggiodhaahaaGreatDoor
end
