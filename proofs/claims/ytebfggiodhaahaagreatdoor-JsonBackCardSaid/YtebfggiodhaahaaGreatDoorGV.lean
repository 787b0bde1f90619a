/-
  ValTree ValOpen, one behind the other: a claim holds at most 60 files.
-/
import Derived.Test.YtebfggiodhaahaaGreatDoorGA
import Derived.Deep.Slices
import Derived.WalkKit
import Derived.ProofKit
import Derived.OpenShut
import Derived.Carry
import Derived.ChangeSlices
import Derived.ChangeSame
import Derived.Laws.IdiomArrays
section
namespace Go.Proofs.YtebfggiodhaahaaGreatDoor
open Go.RowKit

/-- What a value has of its own. -/
structure Own where
  kind : Int
  g : Bool
  x : Nat
  bits : Int
  text : ByteArray
  la : Option Addr
  lcap : Nat
  ka : Option Addr
  kcap : Nat
  keys : List ByteArray

/-- A value: its own parts, and the values of its list. -/
inductive VT where
  | mk (o : Own) (kids : List VT)

def VT.o : VT → Own | .mk o _ => o
def VT.kids : VT → List VT | .mk _ l => l
@[simp] theorem VT.o_mk (o : Own) (l : List VT) : (VT.mk o l).o = o := rfl
@[simp] theorem VT.kids_mk (o : Own) (l : List VT) : (VT.mk o l).kids = l := rfl

/-- A value's ten cells, as a list; the value. -/
def VT.cells (T : VT) : List Value := [.int .i64 T.o.kind, .bool T.o.g, .int .u64 (lb 0 T.o.x), .int .u64 (lb 1 T.o.x), .int .u64 (lb 2 T.o.x), .int .u64 (lb 3 T.o.x), .int .u64 T.o.bits, .string T.o.text, .slice T.o.la T.kids.length T.o.lcap, .slice T.o.ka T.o.keys.length T.o.kcap]
abbrev V10 (k : Int) (g : Bool) (x0 x1 x2 x3 b : Int) (s : ByteArray) (la : Option Addr) (n lc : Nat) (ka : Option Addr) (m kc : Nat) : Value :=
  .agg #[.int .i64 k, .bool g, .int .u64 x0, .int .u64 x1, .int .u64 x2, .int .u64 x3, .int .u64 b, .string s, .slice la n lc, .slice ka m kc]
abbrev VT.val (T : VT) : Value := .agg T.cells.toArray
theorem VT.cells_length (T : VT) : T.cells.length = 10 := rfl
instance : Inhabited VT := ⟨.mk ⟨0, false, 0, 0, ⟨#[]⟩, none, 0, none, 0, []⟩ []⟩

/-- The ten cells of a value, from a place on. -/
def Cells10 (w : World) (b p : Nat) (T : VT) : Prop := ∀ j u, T.cells[j]? = some u → w.cell? ⟨b, p + j, none⟩ = some u

/-- What may be of a value's own parts by their types. -/
def Own.WF (o : Own) (n : Nat) : Prop :=
  (-9223372036854775808 ≤ o.kind ∧ o.kind ≤ 9223372036854775807) ∧ o.x < 2 ^ 256 ∧ (0 ≤ o.bits ∧ o.bits ≤ 18446744073709551615) ∧ o.text.size ≤ maxLen ∧
  (n ≤ o.lcap ∧ o.lcap ≤ maxLen) ∧ (o.keys.length ≤ o.kcap ∧ o.kcap ≤ maxLen) ∧ ∀ s ∈ o.keys, s.size ≤ maxLen

/-- A slice's texts lie in memory. -/
def KeysAt (w : World) (ka : Option Addr) (keys : List ByteArray) : Prop :=
  ∃ b off, (0 < keys.length → ka = some ⟨b, off, none⟩) ∧ ∀ (i : Nat) (s : ByteArray), keys[i]? = some s → w.cell? ⟨b, off + i, none⟩ = some (.string s)
/-- A slice's values lie in memory, each by its ten cells. -/
def KidsAt (w : World) (la : Option Addr) (kids : List VT) : Prop :=
  ∃ b off, (0 < kids.length → la = some ⟨b, off, none⟩) ∧ ∀ (i : Nat) (t : VT), kids[i]? = some t → Cells10 w b (off + i * 10) t

/-- A value lies in memory, and all in it. -/
inductive VT.In (w : World) : VT → Prop
  | mk (o : Own) (kids : List VT) (wf : o.WF kids.length) (hk : KeysAt w o.ka o.keys) (hl : KidsAt w o.la kids) (hi : ∀ (i : Nat) (t : VT), kids[i]? = some t → VT.In w t) : VT.In w (.mk o kids)

theorem VT.In.wf {w : World} {T : VT} (h : T.In w) : T.o.WF T.kids.length := by cases h; assumption
theorem VT.In.hk {w : World} {T : VT} (h : T.In w) : KeysAt w T.o.ka T.o.keys := by cases h; assumption
theorem VT.In.hl {w : World} {T : VT} (h : T.In w) : KidsAt w T.o.la T.kids := by cases h; assumption
theorem VT.In.kid {w : World} {T : VT} (h : T.In w) {i : Nat} {t : VT} (hi : T.kids[i]? = some t) : t.In w := by cases h; rename_i a b c d; exact d i t hi
theorem VT.In.mem {w : World} {T : VT} (h : T.In w) {t : VT} (hi : t ∈ T.kids) : t.In w := by
  obtain ⟨i, hi⟩ := List.getElem?_of_mem hi
  exact h.kid hi

/-- By what is in it. -/
theorem VT.ind {P : VT → Prop} (h : ∀ o kids, (∀ t ∈ kids, P t) → P (.mk o kids)) : ∀ T, P T := by
  intro T
  refine VT.rec (motive_1 := P) (motive_2 := fun l => ∀ t ∈ l, P t) (fun o kids ih => h o kids ih) (fun t ht => by cases ht) (fun t l h1 h2 u hu => ?_) T
  rcases List.mem_cons.1 hu with rfl | hu
  · exact h1
  · exact h2 u hu

theorem cell_lt {w : World} {a : Addr} {v : Value} (h : w.cell? a = some v) : a.block < w.heap.size := by
  unfold World.cell? at h
  split at h
  · rename_i hh
    exact (Array.getElem?_eq_some_iff.1 hh).1
  · cases h
theorem cell_keep {w w' : World} (hb : Below w.heap.size w w') {a : Addr} {v : Value} (h : w.cell? a = some v) : w'.cell? a = some v :=
  (hb.cell (cell_lt h)).trans h
theorem Cells10.keep {w w' : World} (hb : Below w.heap.size w w') {b p : Nat} {T : VT} (h : Cells10 w b p T) : Cells10 w' b p T :=
  fun j u hu => cell_keep hb (h j u hu)
theorem Cells10.ten {w : World} {b p : Nat} {kd : Int} {g : Bool} {x : Nat} {bits : Int} {s : ByteArray} {la : Option Addr} {lc : Nat} {ka : Option Addr} {kc : Nat} {ks : List ByteArray} {l : List VT} (h : Cells10 w b p (.mk ⟨kd, g, x, bits, s, la, lc, ka, kc, ks⟩ l)) :
    w.cell? ⟨b, p, none⟩ = some (.int .i64 kd) ∧ w.cell? ⟨b, p + 1, none⟩ = some (.bool g) ∧ w.cell? ⟨b, p + 2, none⟩ = some (.int .u64 (lb 0 x)) ∧ w.cell? ⟨b, p + 3, none⟩ = some (.int .u64 (lb 1 x)) ∧
    w.cell? ⟨b, p + 4, none⟩ = some (.int .u64 (lb 2 x)) ∧ w.cell? ⟨b, p + 5, none⟩ = some (.int .u64 (lb 3 x)) ∧ w.cell? ⟨b, p + 6, none⟩ = some (.int .u64 bits) ∧ w.cell? ⟨b, p + 7, none⟩ = some (.string s) ∧
    w.cell? ⟨b, p + 8, none⟩ = some (.slice la l.length lc) ∧ w.cell? ⟨b, p + 9, none⟩ = some (.slice ka ks.length kc) :=
  ⟨h 0 _ rfl, h 1 _ rfl, h 2 _ rfl, h 3 _ rfl, h 4 _ rfl, h 5 _ rfl, h 6 _ rfl, h 7 _ rfl, h 8 _ rfl, h 9 _ rfl⟩
theorem KeysAt.keep {w w' : World} (hb : Below w.heap.size w w') {ka : Option Addr} {keys : List ByteArray} (h : KeysAt w ka keys) : KeysAt w' ka keys := by
  obtain ⟨b, off, h1, h2⟩ := h
  exact ⟨b, off, h1, fun i s hs => cell_keep hb (h2 i s hs)⟩
theorem KidsAt.keep {w w' : World} (hb : Below w.heap.size w w') {la : Option Addr} {kids : List VT} (h : KidsAt w la kids) : KidsAt w' la kids := by
  obtain ⟨b, off, h1, h2⟩ := h
  exact ⟨b, off, h1, fun i s hs => (h2 i s hs).keep hb⟩
theorem VT.In.keep {w w' : World} (hb : Below w.heap.size w w') : ∀ {T : VT}, T.In w → T.In w' := by
  intro T
  induction T using VT.ind with
  | h o kids ih =>
    intro h
    exact .mk o kids h.wf (h.hk.keep hb) (h.hl.keep hb) (fun i t hi => ih t (List.mem_of_getElem? hi) (h.kid hi))

/-- A block that holds a value. -/
def Row10 (W : World) (b : Nat) (v0 v1 v2 v3 v4 v5 v6 v7 v8 v9 : Value) : Prop := W.heap[b]? = some (.cells #[v0, v1, v2, v3, v4, v5, v6, v7, v8, v9] 32 (0, 0))
section
variable {W W' : World} {b : Nat} {v0 v1 v2 v3 v4 v5 v6 v7 v8 v9 : Value}
theorem Row10.lt (h : Row10 W b v0 v1 v2 v3 v4 v5 v6 v7 v8 v9) : b < W.heap.size := by
  unfold Row10 at h
  exact (Array.getElem?_eq_some_iff.1 h).1
theorem Row10.new (W : World) (v0 v1 v2 v3 v4 v5 v6 v7 v8 v9 : Value) : Row10 (W.alloc (.cells #[v0, v1, v2, v3, v4, v5, v6, v7, v8, v9] 32)) W.heap.size v0 v1 v2 v3 v4 v5 v6 v7 v8 v9 := heap_alloc_new W _
theorem Row10.alloc (h : Row10 W b v0 v1 v2 v3 v4 v5 v6 v7 v8 v9) (o : Obj) : Row10 (W.alloc o) b v0 v1 v2 v3 v4 v5 v6 v7 v8 v9 := (Below.heap_alloc W o b h.lt).trans h
theorem Row10.drew (h : Row10 W b v0 v1 v2 v3 v4 v5 v6 v7 v8 v9) : Row10 W.drew b v0 v1 v2 v3 v4 v5 v6 v7 v8 v9 := h
theorem Row10.drewN (h : Row10 W b v0 v1 v2 v3 v4 v5 v6 v7 v8 v9) (n : Nat) : Row10 (W.drewN n) b v0 v1 v2 v3 v4 v5 v6 v7 v8 v9 := h
theorem Row10.keep (hb : Below W.heap.size W W') (h : Row10 W b v0 v1 v2 v3 v4 v5 v6 v7 v8 v9) : Row10 W' b v0 v1 v2 v3 v4 v5 v6 v7 v8 v9 := (hb.block b h.lt).trans h
theorem Row10.set (h : Row10 W b v0 v1 v2 v3 v4 v5 v6 v7 v8 v9) {c i : Nat} (hne : b ≠ c) (u : Value) : Row10 (W.setCell ⟨c, i, none⟩ u) b v0 v1 v2 v3 v4 v5 v6 v7 v8 v9 :=
  (Below.heap_setCell W ⟨c, i, none⟩ u b hne).trans h
theorem Row10.parts (h : Row10 W b v0 v1 v2 v3 v4 v5 v6 v7 v8 v9) :
    W.cell? ⟨b, 0, none⟩ = some v0 ∧ W.cell? ⟨b, 1, none⟩ = some v1 ∧ W.cell? ⟨b, 2, none⟩ = some v2 ∧ W.cell? ⟨b, 3, none⟩ = some v3 ∧ W.cell? ⟨b, 4, none⟩ = some v4 ∧
    W.cell? ⟨b, 5, none⟩ = some v5 ∧ W.cell? ⟨b, 6, none⟩ = some v6 ∧ W.cell? ⟨b, 7, none⟩ = some v7 ∧ W.cell? ⟨b, 8, none⟩ = some v8 ∧ W.cell? ⟨b, 9, none⟩ = some v9 :=
  ⟨cell_of_row W b 0 _ _ _ h, cell_of_row W b 1 _ _ _ h, cell_of_row W b 2 _ _ _ h, cell_of_row W b 3 _ _ _ h, cell_of_row W b 4 _ _ _ h, cell_of_row W b 5 _ _ _ h, cell_of_row W b 6 _ _ _ h, cell_of_row W b 7 _ _ _ h, cell_of_row W b 8 _ _ _ h, cell_of_row W b 9 _ _ _ h⟩
theorem Row10.set10 (h : Row10 W b v0 v1 v2 v3 v4 v5 v6 v7 v8 v9) (u0 u1 u2 u3 u4 u5 u6 u7 u8 u9 : Value) : Row10 ((((((((((W.setCell ⟨b, 0, none⟩ u0).setCell ⟨b, 1, none⟩ u1).setCell ⟨b, 2, none⟩ u2).setCell ⟨b, 3, none⟩ u3).setCell ⟨b, 4, none⟩ u4).setCell ⟨b, 5, none⟩ u5).setCell ⟨b, 6, none⟩ u6).setCell ⟨b, 7, none⟩ u7).setCell ⟨b, 8, none⟩ u8).setCell ⟨b, 9, none⟩ u9) b u0 u1 u2 u3 u4 u5 u6 u7 u8 u9 := by
  unfold Row10 at *
  have h0 := heap_setCell_same W b 0 _ _ u0 h
  have h1 := heap_setCell_same _ b 1 _ _ u1 h0
  have h2 := heap_setCell_same _ b 2 _ _ u2 h1
  have h3 := heap_setCell_same _ b 3 _ _ u3 h2
  have h4 := heap_setCell_same _ b 4 _ _ u4 h3
  have h5 := heap_setCell_same _ b 5 _ _ u5 h4
  have h6 := heap_setCell_same _ b 6 _ _ u6 h5
  have h7 := heap_setCell_same _ b 7 _ _ u7 h6
  have h8 := heap_setCell_same _ b 8 _ _ u8 h7
  have h9 := heap_setCell_same _ b 9 _ _ u9 h8
  simpa using h9
theorem Row10.free (h : Row10 W b v0 v1 v2 v3 v4 v5 v6 v7 v8 v9) (i : Nat) : W.frozen? ⟨b, i, none⟩ = false := frozen_of_row W b i _ _ h
end

/-- How deep, how many. -/
def VT.depth : VT → Nat
  | .mk _ kids => 1 + (kids.map fun k => k.depth).foldl max 0
def VT.nodes : VT → Nat
  | .mk _ kids => 1 + (kids.map fun k => k.nodes).sum
theorem VT.depth_mk (o : Own) (kids : List VT) : (VT.mk o kids).depth = 1 + (kids.map VT.depth).foldl max 0 := by rw [VT.depth]
theorem VT.nodes_mk (o : Own) (kids : List VT) : (VT.mk o kids).nodes = 1 + (kids.map VT.nodes).sum := by rw [VT.nodes]
theorem foldl_max_ge (l : List Nat) : ∀ a, a ≤ l.foldl max a := by
  induction l with
  | nil => intro a; exact Nat.le_refl _
  | cons b l ih => intro a; exact Nat.le_trans (Nat.le_max_left a b) (ih (max a b))
theorem foldl_max_mem {l : List Nat} : ∀ {a x : Nat}, x ∈ l → x ≤ l.foldl max a := by
  induction l with
  | nil => intro a x h; cases h
  | cons b l ih =>
    intro a x h
    rcases List.mem_cons.1 h with rfl | h
    · exact Nat.le_trans (Nat.le_max_right a x) (foldl_max_ge l _)
    · exact ih h
theorem foldl_max_le {l : List Nat} : ∀ {a n : Nat}, a ≤ n → (∀ x ∈ l, x ≤ n) → l.foldl max a ≤ n := by
  induction l with
  | nil => intro a n h _; exact h
  | cons b l ih => intro a n h hl; exact ih (by have := hl b (by simp); omega) (fun x hx => hl x (by simp [hx]))
theorem VT.depth_kid {o : Own} {kids : List VT} {t : VT} (h : t ∈ kids) : t.depth < (VT.mk o kids).depth := by
  rw [VT.depth_mk]
  have : t.depth ≤ (kids.map VT.depth).foldl max 0 := foldl_max_mem (List.mem_map.2 ⟨t, h, rfl⟩)
  omega
theorem VT.nodes_pos (T : VT) : 1 ≤ T.nodes := by
  cases T; rw [VT.nodes_mk]; omega
/-- The greatest depth, the number of nodes, of the first so many. -/
def dTo (kids : List VT) (k : Nat) : Nat := ((kids.take k).map VT.depth).foldl max 0
def nTo (kids : List VT) (k : Nat) : Nat := ((kids.take k).map VT.nodes).sum
theorem take_next {α : Type} {l : List α} {k : Nat} {t : α} (h : l[k]? = some t) : l.take (k + 1) = l.take k ++ [t] := by
  rw [List.take_add_one, h]; rfl
theorem nTo_next {kids : List VT} {k : Nat} {t : VT} (h : kids[k]? = some t) : nTo kids (k + 1) = nTo kids k + t.nodes := by
  unfold nTo; rw [take_next h]; simp
theorem nTo_all (o : Own) (kids : List VT) : (VT.mk o kids).nodes = 1 + nTo kids kids.length := by
  rw [VT.nodes_mk]; unfold nTo; rw [List.take_length]
theorem nTo_zero (kids : List VT) : nTo kids 0 = 0 := by simp [nTo]
theorem sum_take_le (l : List Nat) : ∀ k, (l.take k).sum ≤ l.sum := by
  induction l with
  | nil => intro k; simp
  | cons a l ih =>
    intro k
    cases k with
    | zero => simp
    | succ k => rw [List.take_succ_cons, List.sum_cons, List.sum_cons]; have := ih k; omega
theorem nTo_le (o : Own) (kids : List VT) (k : Nat) : nTo kids k < (VT.mk o kids).nodes := by
  rw [VT.nodes_mk]; unfold nTo; rw [List.map_take]
  have := sum_take_le (kids.map VT.nodes) k
  omega
end Go.Proofs.YtebfggiodhaahaaGreatDoor
end
section
namespace Go.Proofs.YtebfggiodhaahaaGreatDoor
open Go.ChangeShapes Go.WideShapes Go.ChangeAt Go.RowKit

set_option maxRecDepth 100000 in
theorem open_int5c {H : Type} {enc : TypeId × Value → H} {W : World} {base : Nat} {sp : Nat → Bool} {held : Bool} {fuel : Nat} {c0 c1 c2 c3 c4 : Value} {y : DataW H × List MemPlace}
    (hf : DataW.trod enc Tryz.prog W base sp held fuel 28 [c0, c1, c2, c3, c4] = some y) :
    ∃ (g : Bool) (x : Nat), x < 2 ^ 256 ∧ c0 = .bool g ∧ c1 = .int .u64 (lb 0 x) ∧ c2 = .int .u64 (lb 1 x) ∧ c3 = .int .u64 (lb 2 x) ∧ c4 = .int .u64 (lb 3 x) := by
  have ht : Tryz.prog.underlying 28 = some (.struct #[{ name := "Neg", type := 4, offset := 0, embedded := false, tag := "", pkgPath := "", byteOffset := 0 }, { name := "N", type := 26, offset := 1, embedded := false, tag := "", pkgPath := "", byteOffset := 8 }]) := by kernel_rfl
  have htn : Tryz.prog.underlying 26 = some (.array 4 24) := by kernel_rfl
  have htb : Tryz.prog.underlying 4 = some .bool := by kernel_rfl
  have he : Tryz.prog.underlying 24 = some (.int .u64) := by kernel_rfl
  have hcb : Tryz.prog.cellsOf 4 = 1 := by kernel_rfl
  have hcn : Tryz.prog.cellsOf 26 = 4 := by kernel_rfl
  have hce : Tryz.prog.cellsOf 24 = 1 := by kernel_rfl
  obtain ⟨y0, y1, n, hx, _, h0, h1⟩ := trod_struct2 ht hf
  rw [hcb] at h0
  rw [hcn] at h1
  have h0' : DataW.trod enc Tryz.prog W base sp held n 4 [c0] = some y0 := h0
  have h1' : DataW.trod enc Tryz.prog W base sp held n 26 [c1, c2, c3, c4] = some y1 := h1
  obtain ⟨g, eg, rfl⟩ := DataW.trod_bool htb h0'
  obtain ⟨z0, z1, z2, z3, m, hy, k0, k1, k2, k3⟩ := trod_array4 htn hce h1'
  obtain ⟨a0, e0, rfl, w0⟩ := DataW.trod_int he k0
  obtain ⟨a1, e1, rfl, w1⟩ := DataW.trod_int he k1
  obtain ⟨a2, e2, rfl, w2⟩ := DataW.trod_int he k2
  obtain ⟨a3, e3, rfl, w3⟩ := DataW.trod_int he k3
  simp only [List.cons.injEq, and_true] at e0 e1 e2 e3 eg
  subst e0 e1 e2 e3 eg hy
  have wd : ∀ a : Int, (Lit.int .u64 a).wf = true → Word a := fun a h => by
    have := bounds_u64 h
    unfold Word; omega
  obtain ⟨x, hx1, _, l0, l1, l2, l3⟩ := nat_of (wd _ w0) (wd _ w1) (wd _ w2) (wd _ w3)
  exact ⟨g, x, hx1, rfl, by rw [l0], by rw [l1], by rw [l2], by rw [l3]⟩

set_option maxRecDepth 100000 in
/-- A slice of texts, opened. -/
theorem open_keys {H : Type} {enc : TypeId × Value → H} {W : World} {base : Nat} {held : Bool} {fuel : Nat} {c : Value} {y : DataW H × List MemPlace}
    (h : DataW.trod enc Tryz.prog W base (fun _ => true) held fuel 30 [c] = some y) :
    ∃ (ka : Option Addr) (kcap : Nat) (keys : List ByteArray), c = .slice ka keys.length kcap ∧ KeysAt W ka keys ∧ keys.length ≤ kcap ∧ kcap ≤ maxLen ∧ ∀ s ∈ keys, s.size ≤ maxLen := by
  have ht : Tryz.prog.underlying 30 = some (.slice 9) := by kernel_rfl
  have hs : Tryz.prog.underlying 9 = some .string := by kernel_rfl
  have hc : Tryz.prog.cellsOf 9 = 1 := by kernel_rfl
  rcases Go.Deep.open_slice1 ht hc h with ⟨h1, _⟩ | ⟨a, len, cap, m, n, V, D, Pl, h1, hb, hl, hm, hmm, _, hx⟩
  · simp only [List.cons.injEq, and_true] at h1
    exact ⟨none, 0, [], h1, ⟨0, 0, fun h => absurd h (by simp), fun i s h => by simp at h⟩, by simp, by unfold maxLen; omega, fun s h => by cases h⟩
  · simp only [List.cons.injEq, and_true] at h1
    simp only [if_true] at hmm
    subst hmm
    have hV : ∀ i, i < len → ∃ s : ByteArray, V i = .string s ∧ s.size ≤ maxLen := fun i hi => by
      obtain ⟨s, e, _, hz⟩ := DataW.trod_string hs (hx i (by omega)).2
      simp only [List.cons.injEq, and_true] at e
      exact ⟨s, e, hz⟩
    obtain ⟨f, hf⟩ := Go.Deep.choose_lt (α := ByteArray) hV
    refine ⟨some a, m, (List.range len).map f, by simpa using h1, ?_, by simpa using hl, hm, fun s h => ?_⟩
    · rcases Nat.eq_zero_or_pos len with h0 | h0
      · subst h0
        exact ⟨0, 0, fun h => absurd h (by simp), fun i s h => by simp at h⟩
      · obtain ⟨b, off, spot⟩ := a
        have hspot : spot = none := by simpa [Addr.add] using World.cell?_spot (hx 0 (by omega)).1
        subst hspot
        refine ⟨b, off, fun _ => rfl, fun i s h => ?_⟩
        have hi : i < len := by
          have := (List.getElem?_eq_some_iff.1 h).1
          simpa using this
        have := (hx i (by omega)).1
        rw [Go.WideShapes.add_plain] at this
        rw [this, (hf i hi).1]
        simp [hi] at h
        rw [h]
    · obtain ⟨i, hi, rfl⟩ := List.mem_map.1 h
      exact (hf i (by simpa using hi)).2

set_option maxRecDepth 100000 in
/-- A value's ten cells, read, are a tree. -/
theorem open_vt {H : Type} {enc : TypeId × Value → H} {W : World} {base : Nat} {held : Bool} : ∀ (fuel : Nat) (cs : List Value) (y : DataW H × List MemPlace),
    DataW.trod enc Tryz.prog W base (fun _ => true) held fuel 32 cs = some y → ∃ T : VT, cs = T.cells ∧ T.In W := by
  have ht : Tryz.prog.underlying 32 = some (.struct (Tryz.prog.fieldsOf 32)) := by kernel_rfl
  have hfl : (Tryz.prog.fieldsOf 32) = #[{ name := "Kind", type := 3, offset := 0, embedded := false, tag := "", pkgPath := "", byteOffset := 0 }, { name := "Int", type := 28, offset := 1, embedded := false, tag := "", pkgPath := "", byteOffset := 8 }, { name := "Bits", type := 24, offset := 6, embedded := false, tag := "", pkgPath := "", byteOffset := 48 }, { name := "Text", type := 9, offset := 7, embedded := false, tag := "", pkgPath := "", byteOffset := 56 }, { name := "List", type := 29, offset := 8, embedded := false, tag := "", pkgPath := "", byteOffset := 72 }, { name := "Keys", type := 30, offset := 9, embedded := false, tag := "", pkgPath := "", byteOffset := 96 }] := by kernel_rfl
  have hcV : Tryz.prog.cellsOf 32 = 10 := by kernel_rfl
  have hcI : Tryz.prog.cellsOf 28 = 5 := by kernel_rfl
  have hci : Tryz.prog.cellsOf 3 = 1 := by kernel_rfl
  have hcu : Tryz.prog.cellsOf 24 = 1 := by kernel_rfl
  have hcs : Tryz.prog.cellsOf 9 = 1 := by kernel_rfl
  have hcL : Tryz.prog.cellsOf 29 = 1 := by kernel_rfl
  have hcK : Tryz.prog.cellsOf 30 = 1 := by kernel_rfl
  have hui : Tryz.prog.underlying 3 = some (.int .i64) := by kernel_rfl
  have huu : Tryz.prog.underlying 24 = some (.int .u64) := by kernel_rfl
  have hus : Tryz.prog.underlying 9 = some .string := by kernel_rfl
  have huL : Tryz.prog.underlying 29 = some (.slice 32) := by kernel_rfl
  intro fuel
  induction fuel using Nat.strongRecOn with
  | ind fuel ih =>
    intro cs y h
    obtain ⟨xs, n1, rfl, _, hl, hlen, hf⟩ := DataW.trod_struct ht h
    rw [hcV] at hl
    rw [hfl] at hlen hf
    match cs, hl, xs, hlen with
    | [c0, c1, c2, c3, c4, c5, c6, c7, c8, c9], _, [y0, y1, y2, y3, y4, y5], _ =>
      have f0 : DataW.trod enc Tryz.prog W base (fun _ => true) held n1 3 (([c0, c1, c2, c3, c4, c5, c6, c7, c8, c9].drop 0).take (Tryz.prog.cellsOf 3)) = some y0 := hf 0 _ rfl
      have f1 : DataW.trod enc Tryz.prog W base (fun _ => true) held n1 28 (([c0, c1, c2, c3, c4, c5, c6, c7, c8, c9].drop 1).take (Tryz.prog.cellsOf 28)) = some y1 := hf 1 _ rfl
      have f2 : DataW.trod enc Tryz.prog W base (fun _ => true) held n1 24 (([c0, c1, c2, c3, c4, c5, c6, c7, c8, c9].drop 6).take (Tryz.prog.cellsOf 24)) = some y2 := hf 2 _ rfl
      have f3 : DataW.trod enc Tryz.prog W base (fun _ => true) held n1 9 (([c0, c1, c2, c3, c4, c5, c6, c7, c8, c9].drop 7).take (Tryz.prog.cellsOf 9)) = some y3 := hf 3 _ rfl
      have f4 : DataW.trod enc Tryz.prog W base (fun _ => true) held n1 29 (([c0, c1, c2, c3, c4, c5, c6, c7, c8, c9].drop 8).take (Tryz.prog.cellsOf 29)) = some y4 := hf 4 _ rfl
      have f5 : DataW.trod enc Tryz.prog W base (fun _ => true) held n1 30 (([c0, c1, c2, c3, c4, c5, c6, c7, c8, c9].drop 9).take (Tryz.prog.cellsOf 30)) = some y5 := hf 5 _ rfl
      rw [hci] at f0
      rw [hcI] at f1
      rw [hcu] at f2
      rw [hcs] at f3
      rw [hcL] at f4
      rw [hcK] at f5
      have g0 : DataW.trod enc Tryz.prog W base (fun _ => true) held n1 3 [c0] = some y0 := f0
      have g1 : DataW.trod enc Tryz.prog W base (fun _ => true) held n1 28 [c1, c2, c3, c4, c5] = some y1 := f1
      have g2 : DataW.trod enc Tryz.prog W base (fun _ => true) held n1 24 [c6] = some y2 := f2
      have g3 : DataW.trod enc Tryz.prog W base (fun _ => true) held n1 9 [c7] = some y3 := f3
      have g4 : DataW.trod enc Tryz.prog W base (fun _ => true) held n1 29 [c8] = some y4 := f4
      have g5 : DataW.trod enc Tryz.prog W base (fun _ => true) held n1 30 [c9] = some y5 := f5
      clear f0 f1 f2 f3 f4 f5 hf
      obtain ⟨k, e0, _, wk⟩ := DataW.trod_int hui g0
      obtain ⟨g, x, hx, e1, e2, e3, e4, e5⟩ := open_int5c g1
      obtain ⟨b, e6, _, wb⟩ := DataW.trod_int huu g2
      obtain ⟨s, e7, _, hs⟩ := DataW.trod_string hus g3
      obtain ⟨ka, kcap, keys, e9, hK, hkl, hkc, hks⟩ := open_keys g5
      simp only [List.cons.injEq, and_true] at e0 e6 e7
      have kids : ∃ (la : Option Addr) (lcap : Nat) (kids : List VT), c8 = .slice la kids.length lcap ∧ KidsAt W la kids ∧ kids.length ≤ lcap ∧ lcap ≤ maxLen ∧ ∀ (i : Nat) (t : VT), kids[i]? = some t → t.In W := by
        rcases DataW.trod_slice huL g4 with ⟨h1, _⟩ | ⟨a, len, cap, elems, rest, n, rfl, h1, _, hb, hl, hm, hlen, hel, _, _⟩
        · simp only [List.cons.injEq, and_true] at h1
          exact ⟨none, 0, [], h1, ⟨0, 0, fun h => absurd h (by simp), fun i s h => by simp at h⟩, by simp, by unfold maxLen; omega, fun i s h => by simp at h⟩
        · simp only [List.cons.injEq, and_true] at h1
          rw [hcV] at hel
          have hV : ∀ i, i < len → ∃ T : VT, (∀ j u, T.cells[j]? = some u → W.cell? ((a.add (i * 10)).add j) = some u) ∧ T.In W := fun i hi => by
            have h2 := hel i hi
            rw [List.getElem?_eq_getElem (by omega)] at h2
            obtain ⟨cs', h3, h4⟩ := Option.bind_eq_some_iff.1 h2
            obtain ⟨T, rfl, hT⟩ := ih n (by omega) _ _ h4
            obtain ⟨_, hl3, h5⟩ := World.cells?_some h3
            exact ⟨T, fun j u hu => (h5 j (by have := (List.getElem?_eq_some_iff.1 hu).1; omega)).trans hu, hT⟩
          obtain ⟨f, hf⟩ := Go.Deep.choose_lt (α := VT) hV
          refine ⟨some a, cap, (List.range len).map f, by simpa using h1, ?_, by simpa using hl, hm, fun i t h => ?_⟩
          · rcases Nat.eq_zero_or_pos len with h0 | h0
            · subst h0
              exact ⟨0, 0, fun h => absurd h (by simp), fun i s h => by simp at h⟩
            · obtain ⟨b', off, spot⟩ := a
              have hspot : spot = none := by
                have := World.cell?_spot ((hf 0 h0).1 0 _ rfl)
                simpa [Addr.add] using this
              subst hspot
              refine ⟨b', off, fun _ => rfl, fun i t h => ?_⟩
              have hi : i < len := by
                have := (List.getElem?_eq_some_iff.1 h).1
                simpa using this
              have ht : f i = t := by simpa [hi] using h
              subst ht
              have hc := (hf i hi).1
              simp only [Go.WideShapes.add_plain] at hc
              exact hc
          · have hi : i < len := by
              have := (List.getElem?_eq_some_iff.1 h).1
              simpa using this
            have ht : f i = t := by simpa [hi] using h
            subst ht
            exact (hf i hi).2
      obtain ⟨la, lcap, kids, e8, hL, hll, hlc, hli⟩ := kids
      refine ⟨.mk ⟨k, g, x, b, s, la, lcap, ka, kcap, keys⟩ kids, ?_, .mk _ _ ⟨?_, hx, ?_, hs, ⟨hll, hlc⟩, ⟨hkl, hkc⟩, hks⟩ hK hL hli⟩
      · subst e0 e1 e2 e3 e4 e5 e6 e7 e8 e9
        rfl
      · exact bounds_i64 wk
      · exact bounds_u64 wb

theorem trod_lt' {H : Type} {enc : TypeId × Value → H} {P : Program} {W : World} {base : Nat} {sp : Nat → Bool} {held : Bool} {t : TypeId} {v : Value} {d : DataW H} {p : List MemPlace}
    (h : DataW.Trod enc P W base sp held t v d p) : ∀ x ∈ p, x.block < W.heap.size := by
  obtain ⟨fuel, hf⟩ := h
  exact DataW.trod_lt fuel _ _ _ hf
set_option maxRecDepth 100000 in
/-- A value as a parameter, opened. -/
theorem open_val {H : Type} {enc : TypeId × Value → H} {W : World} {base : Nat} {held : Bool} {r : Reach} {b : Nat} {v : Value} {d : DataW H} {p : List MemPlace}
    (hv : Value.okWide Tryz.prog W r b 32 v) (h : DataW.Trod enc Tryz.prog W base (fun _ => true) held 32 v d p) : ∃ T : VT, v = T.val ∧ T.In W := by
  obtain ⟨cs, rfl, _⟩ := okWide_struct (show Tryz.prog.underlying 32 = some (.struct (Tryz.prog.fieldsOf 32)) by kernel_rfl) hv
  obtain ⟨fuel, hf⟩ := h
  obtain ⟨T, hT, hI⟩ := open_vt fuel _ _ hf
  refine ⟨T, ?_, hI⟩
  have : cs = T.cells.toArray := by
    cases cs
    simpa [Value.cells] using hT
  rw [this]
end Go.Proofs.YtebfggiodhaahaaGreatDoor
end
