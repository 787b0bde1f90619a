/-
  Spans as they lie in memory: twelve cells each; lists of them; rows of one's own that grow. No walk.
-/
import Derived.Test.YtjlgiejggcbgbaaGreatDoorSpMath
import Derived.Test.YtjlgiejggcbgbaaGreatDoorWholeE
import Derived.Deep.OwnRows
import Derived.Deep.AppendLies
import Derived.Lib.QuietBelow
namespace Go.Proofs.YtjlgiejggcbgbaaGreatDoor
open Go.RowKit Go.Shelf
open Go.Sort (grow)

/-- A span as it lies, whatever it is. -/
structure RS where
  hl : Bool
  hh : Bool
  gl : Bool
  xl : Nat
  gh : Bool
  xh : Nat
/-- A span's value. -/
abbrev V12 (hl hh gl : Bool) (a0 a1 a2 a3 : Int) (gh : Bool) (b0 b1 b2 b3 : Int) : Value := .agg #[.bool hl, .bool hh, .bool gl, .int .u64 a0, .int .u64 a1, .int .u64 a2, .int .u64 a3, .bool gh, .int .u64 b0, .int .u64 b1, .int .u64 b2, .int .u64 b3]
def RS.cells (r : RS) : List Value := [.bool r.hl, .bool r.hh, .bool r.gl, .int .u64 (lb 0 r.xl), .int .u64 (lb 1 r.xl), .int .u64 (lb 2 r.xl), .int .u64 (lb 3 r.xl), .bool r.gh, .int .u64 (lb 0 r.xh), .int .u64 (lb 1 r.xh), .int .u64 (lb 2 r.xh), .int .u64 (lb 3 r.xh)]
def RS.val (r : RS) : Value := V12 r.hl r.hh r.gl (lb 0 r.xl) (lb 1 r.xl) (lb 2 r.xl) (lb 3 r.xl) r.gh (lb 0 r.xh) (lb 1 r.xh) (lb 2 r.xh) (lb 3 r.xh)
theorem RS.cells_length (r : RS) : r.cells.length = 12 := rfl
theorem RS.cells_one (r : RS) : ∀ u ∈ r.cells, u.oneCell' = true := by
  intro u hu
  simp only [RS.cells, List.mem_cons, List.not_mem_nil, or_false] at hu
  rcases hu with rfl | rfl | rfl | rfl | rfl | rfl | rfl | rfl | rfl | rfl | rfl | rfl <;> rfl
theorem RS.val_cells (r : RS) : r.val = .agg r.cells.toArray := rfl
/-- A span whose ends may be, or are not there. -/
def rsp (s : Sp) : RS := ⟨s.1.isSome, s.2.isSome, decide (s.1.getD 0 < 0), (s.1.getD 0).natAbs, decide (s.2.getD 0 < 0), (s.2.getD 0).natAbs⟩
/-- An end may be. -/
def mayE (t g : Bool) (x : Nat) : Bool := if t then !(g && decide (x = 0)) else !g && decide (x = 0)
def mayR (r : RS) : Bool := mayE r.hl r.gl r.xl && mayE r.hh r.gh r.xh
def zof (g : Bool) (x : Nat) : Int := if g then -(x : Int) else x
theorem mayE_some {g : Bool} {x : Nat} (h : mayE true g x = true) : decide (zof g x < 0) = g ∧ (zof g x).natAbs = x := by
  unfold mayE at h
  rw [if_pos rfl] at h
  unfold zof
  cases g with
  | false => exact ⟨decide_eq_false (by simp), by simp⟩
  | true =>
    have h0 : x ≠ 0 := by simpa using h
    exact ⟨decide_eq_true (by simp; omega), by simp⟩
theorem mayE_none {g : Bool} {x : Nat} (h : mayE false g x = true) : g = false ∧ x = 0 := by
  unfold mayE at h
  simpa using h
theorem mayR_sp {r : RS} (h : mayR r = true) (hl : r.xl < 2 ^ 256) (hh : r.xh < 2 ^ 256) : ∃ s : Sp, r = rsp s ∧ SpR s := by
  obtain ⟨tl, th, gl, xl, gh, xh⟩ := r
  unfold mayR at h
  simp only [Bool.and_eq_true] at h hl hh
  have key : ∀ (t g : Bool) (x : Nat), mayE t g x = true → x < 2 ^ 256 → ∃ o : Option Int, o.isSome = t ∧ decide (o.getD 0 < 0) = g ∧ (o.getD 0).natAbs = x ∧ ∀ a, o = some a → inR a := by
    intro t g x hm hx
    cases t with
    | true =>
      obtain ⟨h1, h2⟩ := mayE_some hm
      exact ⟨some (zof g x), rfl, h1, h2, fun a ha => by cases ha; rw [inR_abs, h2]; exact hx⟩
    | false =>
      obtain ⟨h1, h2⟩ := mayE_none hm
      exact ⟨none, rfl, by rw [h1]; rfl, by rw [h2]; rfl, fun a ha => by cases ha⟩
  obtain ⟨o1, a1, a2, a3, a4⟩ := key tl gl xl h.1 hl
  obtain ⟨o2, b1, b2, b3, b4⟩ := key th gh xh h.2 hh
  exact ⟨(o1, o2), by unfold rsp; simp only; rw [a1, a2, a3, b1, b2, b3], a4, b4⟩
theorem rsp_may {s : Sp} (h : SpR s) : mayR (rsp s) = true ∧ (rsp s).xl < 2 ^ 256 ∧ (rsp s).xh < 2 ^ 256 := by
  have key : ∀ o : Option Int, (∀ a, o = some a → inR a) → mayE o.isSome (decide (o.getD 0 < 0)) (o.getD 0).natAbs = true ∧ (o.getD 0).natAbs < 2 ^ 256 := by
    intro o ho
    cases o with
    | none => exact ⟨rfl, by decide⟩
    | some a =>
      refine ⟨?_, inR_abs.1 (ho a rfl)⟩
      unfold mayE
      simp only [Option.isSome_some, Option.getD_some, if_true]
      by_cases h : a < 0
      · rw [decide_eq_true h, decide_eq_false (by omega)]; rfl
      · rw [decide_eq_false h]; rfl
  unfold mayR
  obtain ⟨a1, a2⟩ := key s.1 h.1
  obtain ⟨b1, b2⟩ := key s.2 h.2
  exact ⟨by rw [Bool.and_eq_true]; exact ⟨a1, b1⟩, a2, b2⟩
/-- Lists whose spans all may be. -/
theorem rsp_list {l : List RS} (hx : ∀ r ∈ l, r.xl < 2 ^ 256 ∧ r.xh < 2 ^ 256) (h : l.all mayR = true) : ∃ A : List Sp, l = A.map rsp ∧ ∀ s ∈ A, SpR s := by
  induction l with
  | nil => exact ⟨[], rfl, fun s hs => by cases hs⟩
  | cons r l ih =>
    rw [List.all_cons, Bool.and_eq_true] at h
    obtain ⟨A, hA, hR⟩ := ih (fun q hq => hx q (List.mem_cons_of_mem _ hq)) h.2
    obtain ⟨s, hs, hr⟩ := mayR_sp h.1 (hx r List.mem_cons_self).1 (hx r List.mem_cons_self).2
    exact ⟨s :: A, by rw [List.map_cons, ← hs, ← hA], fun q hq => by
      rcases List.mem_cons.1 hq with rfl | hq
      · exact hr
      · exact hR q hq⟩
theorem rsp_all {A : List Sp} (h : ∀ s ∈ A, SpR s) : (A.map rsp).all mayR = true := by
  rw [List.all_eq_true]
  intro r hr
  obtain ⟨s, hs, rfl⟩ := List.mem_map.1 hr
  exact (rsp_may (h s hs)).1

/-- A span's twelve cells. -/
def C12 (w : World) (b p : Nat) (r : RS) : Prop := ∀ j u, r.cells[j]? = some u → w.cell? ⟨b, p + j, none⟩ = some u
theorem cell_keep9 {w w' : World} (hb : Below w.heap.size w w') {a : Addr} {v : Value} (h : w.cell? a = some v) : w'.cell? a = some v := by rw [hb.cell (block_lt_of_cell h)]; exact h
theorem C12.keep {w w' : World} (hb : Below w.heap.size w w') {b p : Nat} {r : RS} (h : C12 w b p r) : C12 w' b p r := fun j u hu => cell_keep9 hb (h j u hu)
theorem C12.twelve {w : World} {b p : Nat} {hl hh gl : Bool} {xl : Nat} {gh : Bool} {xh : Nat} (h : C12 w b p ⟨hl, hh, gl, xl, gh, xh⟩) :
    w.cell? ⟨b, p, none⟩ = some (.bool hl) ∧ w.cell? ⟨b, p + 1, none⟩ = some (.bool hh) ∧ w.cell? ⟨b, p + 2, none⟩ = some (.bool gl) ∧ w.cell? ⟨b, p + 3, none⟩ = some (.int .u64 (lb 0 xl)) ∧ w.cell? ⟨b, p + 4, none⟩ = some (.int .u64 (lb 1 xl)) ∧ w.cell? ⟨b, p + 5, none⟩ = some (.int .u64 (lb 2 xl)) ∧ w.cell? ⟨b, p + 6, none⟩ = some (.int .u64 (lb 3 xl)) ∧
    w.cell? ⟨b, p + 7, none⟩ = some (.bool gh) ∧ w.cell? ⟨b, p + 8, none⟩ = some (.int .u64 (lb 0 xh)) ∧ w.cell? ⟨b, p + 9, none⟩ = some (.int .u64 (lb 1 xh)) ∧ w.cell? ⟨b, p + 10, none⟩ = some (.int .u64 (lb 2 xh)) ∧ w.cell? ⟨b, p + 11, none⟩ = some (.int .u64 (lb 3 xh)) :=
  ⟨h 0 _ rfl, h 1 _ rfl, h 2 _ rfl, h 3 _ rfl, h 4 _ rfl, h 5 _ rfl, h 6 _ rfl, h 7 _ rfl, h 8 _ rfl, h 9 _ rfl, h 10 _ rfl, h 11 _ rfl⟩
/-- What a walk over a list of spans asks of it. -/
structure Ls (w : World) (la : Option Addr) (l : List RS) (bb off : Nat) : Prop where
  la : 0 < l.length → la = some ⟨bb, off, none⟩
  cells : ∀ (i : Nat) (r : RS), l[i]? = some r → C12 w bb (off + i * 12) r
  len : l.length ≤ 9223372036854775807
theorem Ls.keep {w w' : World} {la : Option Addr} {l : List RS} {bb off : Nat} (h : Ls w la l bb off) (hb : Below w.heap.size w w') : Ls w' la l bb off := ⟨h.la, fun i r hr => (h.cells i r hr).keep hb, h.len⟩
theorem Ls.nil (w : World) (la : Option Addr) : Ls w la [] 0 0 := ⟨fun h => absurd h (by simp), fun i r h => by simp at h, by simp⟩
theorem span_at {l : List RS} {k : Nat} (h : k < l.length) : ∃ s, l[k]? = some s ∧ s ∈ l := ⟨l[k], List.getElem?_eq_getElem h, List.getElem_mem h⟩
/-- A slice that reads as a list of spans. -/
def Sl (w : World) (v : Value) (l : List RS) : Prop := ∃ la lc bb off, v = .slice la l.length lc ∧ Ls w la l bb off ∧ l.length ≤ lc ∧ lc ≤ maxLen
theorem Sl.keep {w w' : World} {v : Value} {l : List RS} (h : Sl w v l) (hb : Below w.heap.size w w') : Sl w' v l := by
  obtain ⟨la, lc, bb, off, h1, h2, h3⟩ := h
  exact ⟨la, lc, bb, off, h1, h2.keep hb, h3⟩

/-- A block that holds one span. -/
def Row12 (W : World) (b : Nat) (v0 v1 v2 v3 v4 v5 v6 v7 v8 v9 v10 v11 : Value) : Prop := W.heap[b]? = some (.cells #[v0, v1, v2, v3, v4, v5, v6, v7, v8, v9, v10, v11] 37 (0, 0))
section
variable {W W' : World} {b : Nat} {v0 v1 v2 v3 v4 v5 v6 v7 v8 v9 v10 v11 : Value}
theorem Row12.lt (h : Row12 W b v0 v1 v2 v3 v4 v5 v6 v7 v8 v9 v10 v11) : b < W.heap.size := by
  unfold Row12 at h
  exact (Array.getElem?_eq_some_iff.1 h).1
theorem Row12.new (W : World) (v0 v1 v2 v3 v4 v5 v6 v7 v8 v9 v10 v11 : Value) : Row12 (W.alloc (.cells #[v0, v1, v2, v3, v4, v5, v6, v7, v8, v9, v10, v11] 37)) W.heap.size v0 v1 v2 v3 v4 v5 v6 v7 v8 v9 v10 v11 := heap_alloc_new W _
theorem Row12.alloc (h : Row12 W b v0 v1 v2 v3 v4 v5 v6 v7 v8 v9 v10 v11) (o : Obj) : Row12 (W.alloc o) b v0 v1 v2 v3 v4 v5 v6 v7 v8 v9 v10 v11 := (Below.heap_alloc W o b h.lt).trans h
theorem Row12.keep (hb : Below W.heap.size W W') (h : Row12 W b v0 v1 v2 v3 v4 v5 v6 v7 v8 v9 v10 v11) : Row12 W' b v0 v1 v2 v3 v4 v5 v6 v7 v8 v9 v10 v11 := (hb.block b h.lt).trans h
theorem Row12.set (h : Row12 W b v0 v1 v2 v3 v4 v5 v6 v7 v8 v9 v10 v11) {c i : Nat} (hne : b ≠ c) (u : Value) : Row12 (W.setCell ⟨c, i, none⟩ u) b v0 v1 v2 v3 v4 v5 v6 v7 v8 v9 v10 v11 := (Below.heap_setCell W ⟨c, i, none⟩ u b hne).trans h
theorem Row12.grown {r : Option Nat} (h : Row12 W b v0 v1 v2 v3 v4 v5 v6 v7 v8 v9 v10 v11) (hg : W.grownBy W' r) (hne : some b ≠ r) : Row12 W' b v0 v1 v2 v3 v4 v5 v6 v7 v8 v9 v10 v11 := (hg.block b h.lt hne).trans h
theorem Row12.parts (h : Row12 W b v0 v1 v2 v3 v4 v5 v6 v7 v8 v9 v10 v11) :
    W.cell? ⟨b, 0, none⟩ = some v0 ∧ W.cell? ⟨b, 1, none⟩ = some v1 ∧ W.cell? ⟨b, 2, none⟩ = some v2 ∧ W.cell? ⟨b, 3, none⟩ = some v3 ∧ W.cell? ⟨b, 4, none⟩ = some v4 ∧ W.cell? ⟨b, 5, none⟩ = some v5 ∧
    W.cell? ⟨b, 6, none⟩ = some v6 ∧ W.cell? ⟨b, 7, none⟩ = some v7 ∧ W.cell? ⟨b, 8, none⟩ = some v8 ∧ W.cell? ⟨b, 9, none⟩ = some v9 ∧ W.cell? ⟨b, 10, none⟩ = some v10 ∧ W.cell? ⟨b, 11, none⟩ = some v11 :=
  ⟨cell_of_row W b 0 _ _ _ h, cell_of_row W b 1 _ _ _ h, cell_of_row W b 2 _ _ _ h, cell_of_row W b 3 _ _ _ h, cell_of_row W b 4 _ _ _ h, cell_of_row W b 5 _ _ _ h, cell_of_row W b 6 _ _ _ h, cell_of_row W b 7 _ _ _ h, cell_of_row W b 8 _ _ _ h, cell_of_row W b 9 _ _ _ h, cell_of_row W b 10 _ _ _ h, cell_of_row W b 11 _ _ _ h⟩
end

/-- What a call that appends does to memory: it writes to the row's own block and to new ones alone, and the new row lies in the one or in the others. -/
structure Onw (w w' : World) (v v' : Value) : Prop where
  grown : w.grownBy w' v.ownBlock
  lies : v'.ownBlock = v.ownBlock ∨ ∃ g, v'.ownBlock = some g ∧ w.heap.size ≤ g
theorem Onw.refl (w : World) (v : Value) : Onw w w v v := ⟨⟨rfl, rfl, rfl, Nat.le_refl _, fun _ _ _ => rfl⟩, Or.inl rfl⟩
theorem Onw.trans {w0 w1 w2 : World} {v0 v1 v2 : Value} (h : Onw w0 w1 v0 v1) (k : Onw w1 w2 v1 v2) : Onw w0 w2 v0 v2 := by
  have hg := h.grown; have kg := k.grown
  refine ⟨⟨kg.os.trans hg.os, kg.tape.trans hg.tape, kg.output.trans hg.output, Nat.le_trans hg.size kg.size, fun i hi hne => ?_⟩, ?_⟩
  · rw [kg.block i (Nat.lt_of_lt_of_le hi hg.size) ?_, hg.block i hi hne]
    rcases h.lies with e | ⟨g, e, hge⟩
    · rw [e]; exact hne
    · rw [e]; intro hc; have := Option.some.inj hc; omega
  · rcases k.lies with e | ⟨g, e, hge⟩
    · rcases h.lies with e2 | ⟨g2, e2, hge2⟩
      · exact Or.inl (e.trans e2)
      · exact Or.inr ⟨g2, e.trans e2, hge2⟩
    · exact Or.inr ⟨g, e, Nat.le_trans hg.size hge⟩
theorem Onw.below {w0 w1 w2 : World} {v0 v1 : Value} (h : Onw w0 w1 v0 v1) (hb : Below w1.heap.size w1 w2) : Onw w0 w2 v0 v1 :=
  ⟨⟨hb.os.trans h.grown.os, hb.tape.trans h.grown.tape, hb.output.trans h.grown.output, Nat.le_trans h.grown.size hb.size, fun i hi hne => (hb.block i (Nat.lt_of_lt_of_le hi h.grown.size)).trans (h.grown.block i hi hne)⟩, h.lies⟩
theorem Onw.of {w w' : World} (hb : Below w.heap.size w w') (v : Value) : Onw w w' v v := (Onw.refl w v).below hb
theorem Onw.size {w w' : World} {v v' : Value} (h : Onw w w' v v') : w.heap.size ≤ w'.heap.size := h.grown.size
/-- Below the base all is as it was, where the row's block is not. -/
theorem Onw.frame {w w' : World} {v v' : Value} {base : Nat} (h : Onw w w' v v') (hB : base ≤ w.heap.size) (ho : ∀ g, v.ownBlock = some g → base ≤ g) : Below base w w' :=
  ⟨h.grown.os, h.grown.tape, h.grown.output, h.grown.size, fun k hk => h.grown.block k (Nat.lt_of_lt_of_le hk hB) (fun e => by have := ho k e.symm; omega)⟩
/-- Behind an append as the law tells it. -/
theorem Onw.app {w0 w1 w2 : World} {v0 v1 : Value} {g H : Nat} (n c : Nat) (h : Onw w0 w1 v0 v1) (hg : w1.grownBy w2 v1.ownBlock) (hat : v1.ownBlock = some g ∨ g = H) (hH : w1.heap.size ≤ H) : Onw w0 w2 v0 (.slice (some ⟨g, 0, none⟩) n c) := by
  refine h.trans ⟨hg, ?_⟩
  rcases hat with e | e
  · exact Or.inl e.symm
  · exact Or.inr ⟨g, rfl, by omega⟩

/-- The cells of spans, one behind the other. -/
def csS (l : List RS) : List Value := l.flatMap RS.cells
theorem csS_len (l : List RS) : (csS l).length = l.length * 12 := by
  unfold csS
  induction l with
  | nil => rfl
  | cons t l ih => rw [List.flatMap_cons, List.length_append, ih, RS.cells_length, List.length_cons]; omega
theorem csS_one (l : List RS) : ∀ u ∈ csS l, u.oneCell' = true := by
  intro u hu
  unfold csS at hu
  obtain ⟨t, _, h⟩ := List.mem_flatMap.1 hu
  exact t.cells_one u h
theorem csS_app (l m : List RS) : csS (l ++ m) = csS l ++ csS m := by unfold csS; rw [List.flatMap_append]
theorem csS_at : ∀ {l : List RS} {k j : Nat} {r : RS} {u : Value}, l[k]? = some r → r.cells[j]? = some u → (csS l)[k * 12 + j]? = some u := by
  intro l
  induction l with
  | nil => intro k j r u h; simp at h
  | cons a l ih =>
    intro k j r u h hu
    have hj : j < 12 := by have := (List.getElem?_eq_some_iff.1 hu).1; rwa [RS.cells_length] at this
    have e : csS (a :: l) = a.cells ++ csS l := by unfold csS; rw [List.flatMap_cons]
    rw [e]
    cases k with
    | zero =>
      simp at h
      subst h
      rw [List.getElem?_append_left (by rw [RS.cells_length]; omega), show 0 * 12 + j = j by omega]
      exact hu
    | succ k =>
      rw [List.getElem?_append_right (by rw [RS.cells_length]; omega), RS.cells_length, show (k + 1) * 12 + j - 12 = k * 12 + j by omega]
      exact ih (by simpa using h) hu
/-- A row of spans that the call owns, its block from base on. -/
def Bs (W : World) (base : Nat) (v : Value) (l : List RS) : Prop := W.ownsRow base 37 12 v l.length (csS l)
theorem Bs.nil (W : World) (base : Nat) : Bs W base (.slice none 0 0) [] := World.ownsRow_nil _ _ _ _
theorem Bs.alloc {W : World} {base : Nat} {v : Value} {l : List RS} (h : Bs W base v l) (o : Obj) : Bs (W.alloc o) base v l := World.ownsRow.alloc h o
theorem own_keep9 {W W' : World} {base : Nat} {e : TypeId} {sz n : Nat} {v : Value} {xs : List Value} (h : W.ownsRow base e sz v n xs) (hb : Below W.heap.size W W') : W'.ownsRow base e sz v n xs := by
  refine ⟨h.1, ?_⟩
  rcases h.2 with h2 | ⟨g, cap, cur, h3, h4, h5, h6⟩
  · exact Or.inl h2
  · exact Or.inr ⟨g, cap, cur, h3, h4, by rw [hb.block g (Array.getElem?_eq_some_iff.1 h5).1]; exact h5, h6⟩
theorem own_set9 {W : World} {base : Nat} {e : TypeId} {sz n : Nat} {v : Value} {xs : List Value} (h : W.ownsRow base e sz v n xs) {b i : Nat} (hne : v.ownBlock ≠ some b) (u : Value) : (W.setCell ⟨b, i, none⟩ u).ownsRow base e sz v n xs := by
  refine ⟨h.1, ?_⟩
  rcases h.2 with h2 | ⟨g, cap, cur, h3, h4, h5, h6⟩
  · exact Or.inl h2
  · refine Or.inr ⟨g, cap, cur, h3, h4, (Below.heap_setCell W ⟨b, i, none⟩ u g ?_).trans h5, h6⟩
    intro hc
    apply hne
    rw [h3]
    show some g = some b
    rw [hc]
theorem own_mono9 {W : World} {base base' : Nat} {e : TypeId} {sz n : Nat} {v : Value} {xs : List Value} (h : W.ownsRow base e sz v n xs) (hb : base' ≤ base) : W.ownsRow base' e sz v n xs := by
  refine ⟨h.1, ?_⟩
  rcases h.2 with h2 | ⟨g, cap, cur, h3, h4, h5, h6⟩
  · exact Or.inl h2
  · exact Or.inr ⟨g, cap, cur, h3, Nat.le_trans hb h4, h5, h6⟩
theorem own_base9 {W : World} {base : Nat} {e : TypeId} {sz n : Nat} {v : Value} {xs : List Value} (h : W.ownsRow base e sz v n xs) : ∀ g, v.ownBlock = some g → base ≤ g ∧ g < W.heap.size := fun g hg => World.ownsRow.lt h g hg
theorem Bs.keep {W W' : World} {base : Nat} {v : Value} {l : List RS} (h : Bs W base v l) (hb : Below W.heap.size W W') : Bs W' base v l := own_keep9 h hb
theorem addr_add9 (b p j : Nat) : (⟨b, p, none⟩ : Addr).add j = ⟨b, p + j, none⟩ := by unfold Addr.add; split <;> simp_all
/-- An owned row reads as its spans. -/
theorem Bs.form {W : World} {base : Nat} {v : Value} {l : List RS} (h : Bs W base v l) : ∃ la lc bb, v = .slice la l.length lc ∧ Ls W la l bb 0 ∧ l.length ≤ lc ∧ lc ≤ maxLen ∧ (l = [] ∧ la = none ∨ la = some ⟨bb, 0, none⟩ ∧ base ≤ bb ∧ bb < W.heap.size) := by
  have h' := h
  rcases h.2 with ⟨h2, h3⟩ | ⟨g, cap, cur, h3, h4, h5, h6, h7, _⟩
  · have : l = [] := List.eq_nil_of_length_eq_zero h3
    subst this
    exact ⟨none, 0, 0, h2, Ls.nil _ _, Nat.le_refl _, by unfold maxLen; omega, Or.inl ⟨rfl, rfl⟩⟩
  · refine ⟨some ⟨g, 0, none⟩, cap, g, h3, ⟨fun _ => rfl, fun i r hi j u hu => ?_, by unfold maxLen at h7; omega⟩, h6, h7, Or.inr ⟨rfl, h4, (Array.getElem?_eq_some_iff.1 h5).1⟩⟩
    have := World.ownsRow.cells h' (g := g) (by rw [h3]; rfl) (i * 12 + j) u (csS_at hi hu)
    rw [addr_add9] at this
    rw [← this]
    congr 2
    omega
theorem Bs.sl {W : World} {base : Nat} {v : Value} {l : List RS} (h : Bs W base v l) : Sl W v l := by
  obtain ⟨la, lc, bb, h1, h2, h3, h4, _⟩ := h.form
  exact ⟨la, lc, bb, 0, h1, h2, h3, h4⟩
theorem alloc_cell9 {w : World} {a : Addr} {v : Value} (h : w.cell? a = some v) (o : Obj) : (w.alloc o).cell? a = some v := cell_keep9 ((Below.refl _ w).alloc (Nat.le_refl _) o) h
theorem size_alloc9 (w : World) (o : Obj) : (w.alloc o).heap.size = w.heap.size + 1 := by simp
theorem info9 {t : TypeId} {z : Value} {n b : Nat} (h : (Tryz.prog.info? t).map (fun i => (i.zero, i.size, i.bytes)) = some (some z, n, b)) : ∃ i, Tryz.prog.info? t = some i ∧ i.zero = some z ∧ i.size = n ∧ i.bytes = b := by
  cases hi : Tryz.prog.info? t with
  | none => rw [hi] at h; cases h
  | some i => rw [hi] at h; simp at h; exact ⟨i, rfl, h.1, h.2.1, h.2.2⟩
theorem news9 (W : World) (cs : Array Value) (T : TypeId) (H : Nat) (h : W.heap.size = H) : ∀ j u, cs.toList[j]? = some u → (W.alloc (.cells cs T)).cell? ((⟨H, 0, none⟩ : Addr).add j) = some u := by
  subst h; exact World.news_of_block (heap_alloc_new W _)
end Go.Proofs.YtjlgiejggcbgbaaGreatDoor
