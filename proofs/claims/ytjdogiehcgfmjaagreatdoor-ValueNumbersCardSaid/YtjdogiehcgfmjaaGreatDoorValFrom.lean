/-
  A value that lies in memory from a block on, and rows of one's own that are stored into: plain facts on memory. No walk.
-/
import Derived.Test.YtjdogiehcgfmjaaGreatDoorOwnRow
import Derived.Test.YtjdogiehcgfmjaaGreatDoorValSameT
namespace Go.Proofs.YtjdogiehcgfmjaaGreatDoor
open Go.RowKit Go.Shelf

/-- A value lies in memory from a block on, whatever of it is not empty, and all in it. -/
inductive VT.From (lo : Nat) (w : World) : VT → Prop
  | mk (o : Own) (kids : List VT) (wf : o.WF kids.length)
    (hk : ∃ b off, lo ≤ b ∧ (0 < o.keys.length → o.ka = some ⟨b, off, none⟩) ∧ ∀ (i : Nat) (s : ByteArray), o.keys[i]? = some s → w.cell? ⟨b, off + i, none⟩ = some (.string s))
    (hl : ∃ b off, lo ≤ b ∧ (0 < kids.length → o.la = some ⟨b, off, none⟩) ∧ ∀ (i : Nat) (t : VT), kids[i]? = some t → Cells10 w b (off + i * 10) t)
    (hi : ∀ (i : Nat) (t : VT), kids[i]? = some t → VT.From lo w t) : VT.From lo w (.mk o kids)

theorem VT.From.kid {lo : Nat} {w : World} {T : VT} (h : T.From lo w) {i : Nat} {t : VT} (hi : T.kids[i]? = some t) : t.From lo w := by cases h; rename_i a b c d; exact d i t hi
theorem VT.From.ins {lo : Nat} {w : World} : ∀ {T : VT}, T.From lo w → T.In w := by
  intro T
  induction T using VT.ind with
  | h o kids ih =>
    intro h
    cases h with
    | mk _ _ wf hk hl hi =>
      obtain ⟨b, off, _, h1, h2⟩ := hk
      obtain ⟨b', off', _, h3, h4⟩ := hl
      exact .mk o kids wf ⟨b, off, h1, h2⟩ ⟨b', off', h3, h4⟩ (fun i t ht => ih t (List.mem_of_getElem? ht) (hi i t ht))
/-- Blocks from a place on that were there are as they were. -/
def Kept (lo : Nat) (w w' : World) : Prop := ∀ b, lo ≤ b → b < w.heap.size → w'.heap[b]? = w.heap[b]?
theorem kept_cell {lo : Nat} {w w' : World} (hk : Kept lo w w') {b p : Nat} {v : Value} (hb : lo ≤ b) (h : w.cell? ⟨b, p, none⟩ = some v) : w'.cell? ⟨b, p, none⟩ = some v :=
  (World.cell?_of_block (hk b hb (cell_lt h))).trans h
theorem VT.From.kept {lo : Nat} {w w' : World} (hk : Kept lo w w') : ∀ {T : VT}, T.From lo w → T.From lo w' := by
  intro T
  induction T using VT.ind with
  | h o kids ih =>
    intro h
    cases h with
    | mk _ _ wf hk' hl hi =>
      obtain ⟨b, off, h0, h1, h2⟩ := hk'
      obtain ⟨b', off', h5, h3, h4⟩ := hl
      exact .mk o kids wf ⟨b, off, h0, h1, fun i s hs => kept_cell hk h0 (h2 i s hs)⟩ ⟨b', off', h5, h3, fun i t ht j u hu => kept_cell hk h5 (h4 i t ht j u hu)⟩ (fun i t ht => ih t (List.mem_of_getElem? ht) (hi i t ht))
theorem VT.From.mono {lo lo' : Nat} {w : World} (hl : lo' ≤ lo) : ∀ {T : VT}, T.From lo w → T.From lo' w := by
  intro T
  induction T using VT.ind with
  | h o kids ih =>
    intro h
    cases h with
    | mk _ _ wf hk' hl' hi =>
      obtain ⟨b, off, h0, h1, h2⟩ := hk'
      obtain ⟨b', off', h5, h3, h4⟩ := hl'
      exact .mk o kids wf ⟨b, off, Nat.le_trans hl h0, h1, h2⟩ ⟨b', off', Nat.le_trans hl h5, h3, h4⟩ (fun i t ht => ih t (List.mem_of_getElem? ht) (hi i t ht))
theorem kept_below {lo : Nat} {w w' : World} (hb : Below w.heap.size w w') : Kept lo w w' := fun b _ h => hb.block b h
theorem kept_set {lo g i : Nat} {w : World} (h : g < lo) (u : Value) : Kept lo w (w.setCell ⟨g, i, none⟩ u) := fun b hb _ => Below.heap_setCell w ⟨g, i, none⟩ u b (by show b ≠ g; omega)
theorem Kept.trans {lo : Nat} {a b c : World} (h : Kept lo a b) (hs : a.heap.size ≤ b.heap.size) (k : Kept lo b c) : Kept lo a c := fun j h1 h2 => (k j h1 (by omega)).trans (h j h1 h2)

/-- A block whose first cells are these. -/
def Cur (W : World) (g : Nat) (e : TypeId) (xs : List Value) : Prop := ∃ cur : Array Value, W.heap[g]? = some (.cells cur e (0, 0)) ∧ ∀ (j : Nat) (u : Value), xs[j]? = some u → cur[j]? = some u
theorem Cur.lt {W : World} {g : Nat} {e : TypeId} {xs : List Value} (h : Cur W g e xs) : g < W.heap.size := by
  obtain ⟨cur, h1, _⟩ := h
  exact (Array.getElem?_eq_some_iff.1 h1).1
theorem Cur.keep {W W' : World} {g : Nat} {e : TypeId} {xs : List Value} (h : Cur W g e xs) (hb : Below W.heap.size W W') : Cur W' g e xs := by
  have hl := h.lt
  obtain ⟨cur, h1, h2⟩ := h
  exact ⟨cur, (hb.block g hl).trans h1, h2⟩
theorem Cur.cell {W : World} {g : Nat} {e : TypeId} {xs : List Value} (h : Cur W g e xs) {j : Nat} {u : Value} (hj : xs[j]? = some u) : W.cell? ⟨g, j, none⟩ = some u := by
  obtain ⟨cur, h1, h2⟩ := h
  rw [cell_of_row W g j cur e (0, 0) h1]
  exact h2 j u hj
theorem Cur.free {W : World} {g : Nat} {e : TypeId} {xs : List Value} (h : Cur W g e xs) (j : Nat) : W.frozen? ⟨g, j, none⟩ = false := by
  obtain ⟨cur, h1, _⟩ := h
  exact frozen_of_row W g j cur e h1
theorem Cur.set {W : World} {g : Nat} {e : TypeId} {xs : List Value} (h : Cur W g e xs) (i : Nat) (v : Value) : Cur (W.setCell ⟨g, i, none⟩ v) g e (xs.set i v) := by
  obtain ⟨cur, h1, h2⟩ := h
  refine ⟨cur.setIfInBounds i v, by have := heap_setCell_same W g i cur e v h1; simpa using this, fun j u hu => ?_⟩
  rw [Array.getElem?_setIfInBounds]
  rw [List.getElem?_set] at hu
  by_cases hij : i = j
  · subst hij
    rw [if_pos rfl] at hu ⊢
    by_cases hl : i < xs.length
    · have := h2 i _ (List.getElem?_eq_getElem hl)
      have hc := (Array.getElem?_eq_some_iff.1 this).1
      rw [if_pos hl] at hu
      rw [if_pos hc]
      exact hu
    · rw [if_neg hl] at hu; cases hu
  · rw [if_neg hij] at hu ⊢
    exact h2 j u hu
theorem Cur.other {W : World} {g : Nat} {e : TypeId} {xs : List Value} (h : Cur W g e xs) {b i : Nat} (hne : g ≠ b) (u : Value) : Cur (W.setCell ⟨b, i, none⟩ u) g e xs := by
  obtain ⟨cur, h1, h2⟩ := h
  exact ⟨cur, (Below.heap_setCell W ⟨b, i, none⟩ u g hne).trans h1, h2⟩
theorem cur_of_own {W : World} {base : Nat} {e : TypeId} {size g n c m : Nat} {xs : List Value} (h : W.ownsRow base e size (.slice (some ⟨g, 0, none⟩) n c) m xs) : Cur W g e xs ∧ n ≤ c ∧ c ≤ maxLen ∧ base ≤ g := by
  obtain ⟨h1, h2⟩ := h
  rcases h2 with ⟨h3, _⟩ | ⟨g', cap, cur, h3, h4, h5, h6, h7, h8, h9⟩
  · cases h3
  · cases h3
    refine ⟨⟨cur, h5, fun j u hu => ?_⟩, h6, h7, h4⟩
    rw [← h9, List.getElem?_take] at hu
    split at hu
    · simpa using hu
    · cases hu
theorem set_self {xs : List Value} {i : Nat} {u : Value} (h : xs[i]? = some u) : xs.set i u = xs := by
  obtain ⟨hl, rfl⟩ := List.getElem?_eq_some_iff.1 h
  exact List.set_getElem_self hl
theorem newsV_append (a b : List VT) : newsV (a ++ b) = newsV a ++ newsV b := by unfold newsV; rw [List.flatMap_append]
theorem newsV_cons (t : VT) (b : List VT) : newsV (t :: b) = t.cells ++ newsV b := by unfold newsV; rw [List.flatMap_cons]
/-- Ten stores put one value in another's place. -/
theorem set_ten {a b : List VT} {t : VT} {kd : Int} {g : Bool} {x : Nat} {bits : Int} {s : ByteArray} {la : Option Addr} {lc : Nat} {ka : Option Addr} {kc : Nat} {ks : List ByteArray} {l : List VT} {k : Nat} (hk : a.length = k) :
    ((((((((((newsV (a ++ t :: b)).set (k * 10) (.int .i64 kd)).set (k * 10 + 1) (.bool g)).set (k * 10 + 2) (.int .u64 (lb 0 x))).set (k * 10 + 3) (.int .u64 (lb 1 x))).set (k * 10 + 4) (.int .u64 (lb 2 x))).set (k * 10 + 5) (.int .u64 (lb 3 x))).set (k * 10 + 6) (.int .u64 bits)).set (k * 10 + 7) (.string s)).set (k * 10 + 8) (.slice la l.length lc)).set (k * 10 + 9) (.slice ka ks.length kc)
      = newsV (a ++ (VT.mk ⟨kd, g, x, bits, s, la, lc, ka, kc, ks⟩ l) :: b) := by
  have hl : (newsV a).length = k * 10 := by rw [newsV_length, hk]
  rw [newsV_append, newsV_append, newsV_cons, newsV_cons]
  have st : ∀ (j : Nat) (v : Value) (r : List Value), (newsV a ++ r).set (k * 10 + j) v = newsV a ++ r.set j v := by
    intro j v r
    rw [List.set_append_right _ _ (by omega), hl]
    congr 2; omega
  have st0 : ∀ (v : Value) (r : List Value), (newsV a ++ r).set (k * 10) v = newsV a ++ r.set 0 v := fun v r => st 0 v r
  rw [st0, st, st, st, st, st, st, st, st, st]
  rfl
theorem newsV_cell {l : List VT} {k : Nat} {t : VT} (h : l[k]? = some t) {j : Nat} {u : Value} (hj : t.cells[j]? = some u) : (newsV l)[k * 10 + j]? = some u := by
  have hlt := (List.getElem?_eq_some_iff.1 h).1
  have hj10 : j < 10 := by have := (List.getElem?_eq_some_iff.1 hj).1; rw [VT.cells_length] at this; exact this
  have e : l = l.take k ++ t :: l.drop (k + 1) := by
    obtain ⟨_, h2⟩ := List.getElem?_eq_some_iff.1 h
    rw [← h2, ← List.drop_eq_getElem_cons hlt, List.take_append_drop]
  rw [e, newsV_append, newsV_cons]
  have hl : (newsV (l.take k)).length = k * 10 := by rw [newsV_length, List.length_take]; congr 1; omega
  rw [List.getElem?_append_right (by omega), hl, show k * 10 + j - k * 10 = j by omega, List.getElem?_append_left (by rw [VT.cells_length]; exact hj10)]
  exact hj
end Go.Proofs.YtjdogiehcgfmjaaGreatDoor
