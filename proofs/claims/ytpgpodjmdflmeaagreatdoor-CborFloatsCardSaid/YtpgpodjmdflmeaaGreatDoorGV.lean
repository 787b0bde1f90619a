/-
  ValFrom ValSlices ValClone ValGet R6Num NumbersW NumbersAny, one behind the other: a claim holds at most 60 files.
-/
import Derived.Test.YtpgpodjmdflmeaaGreatDoorOwnRow
import Derived.Test.YtpgpodjmdflmeaaGreatDoorGX
import Derived.Test.YtpgpodjmdflmeaaGreatDoorGU
import Derived.Test.YtpgpodjmdflmeaaGreatDoorValNumber
import Derived.Test.YtpgpodjmdflmeaaGreatDoorGO
import Derived.Deep.Cut
import Derived.Deep.RegionHeld3
import Derived.Deep.DeepCutAuto
import Derived.Test.YtpgpodjmdflmeaaGreatDoorR6Same
import Derived.Test.YtpgpodjmdflmeaaGreatDoorValFew
import Derived.Test.YtpgpodjmdflmeaaGreatDoorValTold
import Derived.Lib.QuietBelow
import Derived.BigQuiet
import Derived.Test.YtpgpodjmdflmeaaGreatDoorGB
section
namespace Go.Proofs.YtpgpodjmdflmeaaGreatDoor
open Go.RowKit Go.Shelf

/-- A value lies in memory from a block on, whatever of it is not empty, and all in it. -/
inductive VT.From (lo : Nat) (w : World) : VT → Prop
  | mk (o : Own) (kids : List VT) (wf : o.WF kids.length)
    (hk : ∃ b off, lo ≤ b ∧ (0 < o.keys.length → o.ka = some ⟨b, off, none⟩) ∧ ∀ (i : Nat) (s : ByteArray), o.keys[i]? = some s → w.cell? ⟨b, off + i, none⟩ = some (.string s))
    (hl : ∃ b off, lo ≤ b ∧ (0 < kids.length → o.la = some ⟨b, off, none⟩) ∧ ∀ (i : Nat) (t : VT), kids[i]? = some t → Cells10 w b (off + i * 10) t)
    (hi : ∀ (i : Nat) (t : VT), kids[i]? = some t → VT.From lo w t) : VT.From lo w (.mk o kids)

theorem VT.From.kid {lo : Nat} {w : World} {T : VT} (h : T.From lo w) {i : Nat} {t : VT} (hi : T.kids[i]? = some t) : t.From lo w := by cases h; rename_i a b c d; exact d i t hi
theorem VT.From.ins {lo : Nat} {w : World} : ∀ {T : VT}, T.From lo w → T.In w := by
  intro T
  induction T using VT.ind with
  | h o kids ih =>
    intro h
    cases h with
    | mk _ _ wf hk hl hi =>
      obtain ⟨b, off, _, h1, h2⟩ := hk
      obtain ⟨b', off', _, h3, h4⟩ := hl
      exact .mk o kids wf ⟨b, off, h1, h2⟩ ⟨b', off', h3, h4⟩ (fun i t ht => ih t (List.mem_of_getElem? ht) (hi i t ht))
/-- Blocks from a place on that were there are as they were. -/
def Kept (lo : Nat) (w w' : World) : Prop := ∀ b, lo ≤ b → b < w.heap.size → w'.heap[b]? = w.heap[b]?
theorem kept_cell {lo : Nat} {w w' : World} (hk : Kept lo w w') {b p : Nat} {v : Value} (hb : lo ≤ b) (h : w.cell? ⟨b, p, none⟩ = some v) : w'.cell? ⟨b, p, none⟩ = some v :=
  (World.cell?_of_block (hk b hb (cell_lt h))).trans h
theorem VT.From.kept {lo : Nat} {w w' : World} (hk : Kept lo w w') : ∀ {T : VT}, T.From lo w → T.From lo w' := by
  intro T
  induction T using VT.ind with
  | h o kids ih =>
    intro h
    cases h with
    | mk _ _ wf hk' hl hi =>
      obtain ⟨b, off, h0, h1, h2⟩ := hk'
      obtain ⟨b', off', h5, h3, h4⟩ := hl
      exact .mk o kids wf ⟨b, off, h0, h1, fun i s hs => kept_cell hk h0 (h2 i s hs)⟩ ⟨b', off', h5, h3, fun i t ht j u hu => kept_cell hk h5 (h4 i t ht j u hu)⟩ (fun i t ht => ih t (List.mem_of_getElem? ht) (hi i t ht))
theorem VT.From.mono {lo lo' : Nat} {w : World} (hl : lo' ≤ lo) : ∀ {T : VT}, T.From lo w → T.From lo' w := by
  intro T
  induction T using VT.ind with
  | h o kids ih =>
    intro h
    cases h with
    | mk _ _ wf hk' hl' hi =>
      obtain ⟨b, off, h0, h1, h2⟩ := hk'
      obtain ⟨b', off', h5, h3, h4⟩ := hl'
      exact .mk o kids wf ⟨b, off, Nat.le_trans hl h0, h1, h2⟩ ⟨b', off', Nat.le_trans hl h5, h3, h4⟩ (fun i t ht => ih t (List.mem_of_getElem? ht) (hi i t ht))
theorem kept_below {lo : Nat} {w w' : World} (hb : Below w.heap.size w w') : Kept lo w w' := fun b _ h => hb.block b h
theorem kept_set {lo g i : Nat} {w : World} (h : g < lo) (u : Value) : Kept lo w (w.setCell ⟨g, i, none⟩ u) := fun b hb _ => Below.heap_setCell w ⟨g, i, none⟩ u b (by show b ≠ g; omega)
theorem Kept.trans {lo : Nat} {a b c : World} (h : Kept lo a b) (hs : a.heap.size ≤ b.heap.size) (k : Kept lo b c) : Kept lo a c := fun j h1 h2 => (k j h1 (by omega)).trans (h j h1 h2)

/-- A block whose first cells are these. -/
def Cur (W : World) (g : Nat) (e : TypeId) (xs : List Value) : Prop := ∃ cur : Array Value, W.heap[g]? = some (.cells cur e (0, 0)) ∧ ∀ (j : Nat) (u : Value), xs[j]? = some u → cur[j]? = some u
theorem Cur.lt {W : World} {g : Nat} {e : TypeId} {xs : List Value} (h : Cur W g e xs) : g < W.heap.size := by
  obtain ⟨cur, h1, _⟩ := h
  exact (Array.getElem?_eq_some_iff.1 h1).1
theorem Cur.keep {W W' : World} {g : Nat} {e : TypeId} {xs : List Value} (h : Cur W g e xs) (hb : Below W.heap.size W W') : Cur W' g e xs := by
  have hl := h.lt
  obtain ⟨cur, h1, h2⟩ := h
  exact ⟨cur, (hb.block g hl).trans h1, h2⟩
theorem Cur.cell {W : World} {g : Nat} {e : TypeId} {xs : List Value} (h : Cur W g e xs) {j : Nat} {u : Value} (hj : xs[j]? = some u) : W.cell? ⟨g, j, none⟩ = some u := by
  obtain ⟨cur, h1, h2⟩ := h
  rw [cell_of_row W g j cur e (0, 0) h1]
  exact h2 j u hj
theorem Cur.free {W : World} {g : Nat} {e : TypeId} {xs : List Value} (h : Cur W g e xs) (j : Nat) : W.frozen? ⟨g, j, none⟩ = false := by
  obtain ⟨cur, h1, _⟩ := h
  exact frozen_of_row W g j cur e h1
theorem Cur.set {W : World} {g : Nat} {e : TypeId} {xs : List Value} (h : Cur W g e xs) (i : Nat) (v : Value) : Cur (W.setCell ⟨g, i, none⟩ v) g e (xs.set i v) := by
  obtain ⟨cur, h1, h2⟩ := h
  refine ⟨cur.setIfInBounds i v, by have := heap_setCell_same W g i cur e v h1; simpa using this, fun j u hu => ?_⟩
  rw [Array.getElem?_setIfInBounds]
  rw [List.getElem?_set] at hu
  by_cases hij : i = j
  · subst hij
    rw [if_pos rfl] at hu ⊢
    by_cases hl : i < xs.length
    · have := h2 i _ (List.getElem?_eq_getElem hl)
      have hc := (Array.getElem?_eq_some_iff.1 this).1
      rw [if_pos hl] at hu
      rw [if_pos hc]
      exact hu
    · rw [if_neg hl] at hu; cases hu
  · rw [if_neg hij] at hu ⊢
    exact h2 j u hu
theorem Cur.other {W : World} {g : Nat} {e : TypeId} {xs : List Value} (h : Cur W g e xs) {b i : Nat} (hne : g ≠ b) (u : Value) : Cur (W.setCell ⟨b, i, none⟩ u) g e xs := by
  obtain ⟨cur, h1, h2⟩ := h
  exact ⟨cur, (Below.heap_setCell W ⟨b, i, none⟩ u g hne).trans h1, h2⟩
theorem cur_of_own {W : World} {base : Nat} {e : TypeId} {size g n c m : Nat} {xs : List Value} (h : W.ownsRow base e size (.slice (some ⟨g, 0, none⟩) n c) m xs) : Cur W g e xs ∧ n ≤ c ∧ c ≤ maxLen ∧ base ≤ g := by
  obtain ⟨h1, h2⟩ := h
  rcases h2 with ⟨h3, _⟩ | ⟨g', cap, cur, h3, h4, h5, h6, h7, h8, h9⟩
  · cases h3
  · cases h3
    refine ⟨⟨cur, h5, fun j u hu => ?_⟩, h6, h7, h4⟩
    rw [← h9, List.getElem?_take] at hu
    split at hu
    · simpa using hu
    · cases hu
theorem set_self {xs : List Value} {i : Nat} {u : Value} (h : xs[i]? = some u) : xs.set i u = xs := by
  obtain ⟨hl, rfl⟩ := List.getElem?_eq_some_iff.1 h
  exact List.set_getElem_self hl
theorem newsV_append (a b : List VT) : newsV (a ++ b) = newsV a ++ newsV b := by unfold newsV; rw [List.flatMap_append]
theorem newsV_cons (t : VT) (b : List VT) : newsV (t :: b) = t.cells ++ newsV b := by unfold newsV; rw [List.flatMap_cons]
/-- Ten stores put one value in another's place. -/
theorem set_ten {a b : List VT} {t : VT} {kd : Int} {g : Bool} {x : Nat} {bits : Int} {s : ByteArray} {la : Option Addr} {lc : Nat} {ka : Option Addr} {kc : Nat} {ks : List ByteArray} {l : List VT} {k : Nat} (hk : a.length = k) :
    ((((((((((newsV (a ++ t :: b)).set (k * 10) (.int .i64 kd)).set (k * 10 + 1) (.bool g)).set (k * 10 + 2) (.int .u64 (lb 0 x))).set (k * 10 + 3) (.int .u64 (lb 1 x))).set (k * 10 + 4) (.int .u64 (lb 2 x))).set (k * 10 + 5) (.int .u64 (lb 3 x))).set (k * 10 + 6) (.int .u64 bits)).set (k * 10 + 7) (.string s)).set (k * 10 + 8) (.slice la l.length lc)).set (k * 10 + 9) (.slice ka ks.length kc)
      = newsV (a ++ (VT.mk ⟨kd, g, x, bits, s, la, lc, ka, kc, ks⟩ l) :: b) := by
  have hl : (newsV a).length = k * 10 := by rw [newsV_length, hk]
  rw [newsV_append, newsV_append, newsV_cons, newsV_cons]
  have st : ∀ (j : Nat) (v : Value) (r : List Value), (newsV a ++ r).set (k * 10 + j) v = newsV a ++ r.set j v := by
    intro j v r
    rw [List.set_append_right _ _ (by omega), hl]
    congr 2; omega
  have st0 : ∀ (v : Value) (r : List Value), (newsV a ++ r).set (k * 10) v = newsV a ++ r.set 0 v := fun v r => st 0 v r
  rw [st0, st, st, st, st, st, st, st, st, st]
  rfl
theorem newsV_cell {l : List VT} {k : Nat} {t : VT} (h : l[k]? = some t) {j : Nat} {u : Value} (hj : t.cells[j]? = some u) : (newsV l)[k * 10 + j]? = some u := by
  have hlt := (List.getElem?_eq_some_iff.1 h).1
  have hj10 : j < 10 := by have := (List.getElem?_eq_some_iff.1 hj).1; rw [VT.cells_length] at this; exact this
  have e : l = l.take k ++ t :: l.drop (k + 1) := by
    obtain ⟨_, h2⟩ := List.getElem?_eq_some_iff.1 h
    rw [← h2, ← List.drop_eq_getElem_cons hlt, List.take_append_drop]
  rw [e, newsV_append, newsV_cons]
  have hl : (newsV (l.take k)).length = k * 10 := by rw [newsV_length, List.length_take]; congr 1; omega
  rw [List.getElem?_append_right (by omega), hl, show k * 10 + j - k * 10 = j by omega, List.getElem?_append_left (by rw [VT.cells_length]; exact hj10)]
  exact hj
end Go.Proofs.YtpgpodjmdflmeaaGreatDoor
end
section
namespace Go.Proofs.YtpgpodjmdflmeaaGreatDoor
open Go.RowKit Go.Shelf

/-- The place of the first of these names that is such; -1. -/
def idxN (keys : List ByteArray) (s : ByteArray) : Int :=
  match keys.findIdx? (fun k => s.toList == k.toList) with
  | some i => (i : Int)
  | none => -1
theorem idxN_hit {keys : List ByteArray} {s k : ByteArray} {i : Nat} (hk : keys[i]? = some k) (he : (s.toList == k.toList) = true) (hno : ∀ j < i, ∀ k', keys[j]? = some k' → (s.toList == k'.toList) = false) : idxN keys s = i := by
  obtain ⟨hl, rfl⟩ := List.getElem?_eq_some_iff.1 hk
  have : keys.findIdx? (fun k => s.toList == k.toList) = some i := by
    rw [List.findIdx?_eq_some_iff_getElem]
    exact ⟨hl, he, fun j hj => by rw [hno j hj keys[j] (List.getElem?_eq_getElem (by omega))]; simp⟩
  unfold idxN
  rw [this]
theorem idxN_none {keys : List ByteArray} {s : ByteArray} (hno : ∀ (j : Nat) (k' : ByteArray), keys[j]? = some k' → (s.toList == k'.toList) = false) : idxN keys s = -1 := by
  have : keys.findIdx? (fun k => s.toList == k.toList) = none := by
    rw [List.findIdx?_eq_none_iff]
    intro k hk
    obtain ⟨j, hj⟩ := List.getElem?_of_mem hk
    exact hno j k hj
  unfold idxN
  rw [this]
theorem ret_idx {a b : Int} (h : a = b) : Ending.returned (.int .i64 a) = .returned (.int .i64 b) := by rw [h]

theorem eql_nil (t e : TypeId) (h : Tryz.prog.underlying t = some (.slice e)) (a : Option Addr) (n c : Nat) (W : World) : (binOp .eql t (.slice a n c) (.slice none 0 0)).run Tryz.prog W = .ok (.bool a.isNone) W := by
  simp only [binOp]
  simp [Op.equal, Op.maxDepth, run_equalIn_slice_nil W 9999 t e a n c h]
/-- A slice's copy in a block of its own. -/
def CloneS (w : World) (t : TypeId) (n : Nat) (xs : List Value) (E : Ending) (w' : World) : Prop :=
  ∃ (a' : Option Addr) (c' g : Nat), E = .returned (.slice a' n c') ∧ w.heap.size ≤ g ∧ (0 < n → a' = some ⟨g, 0, none⟩ ∧ Cur w' g t xs) ∧ n ≤ c' ∧ c' ≤ maxLen ∧ Below w.heap.size w w'
end Go.Proofs.YtpgpodjmdflmeaaGreatDoor
end
section
namespace Go.Proofs.YtpgpodjmdflmeaaGreatDoor
open Go.RowKit Go.Shelf

/-- A value's copy. -/
def CloneT (W : World) (T : VT) (E : Ending) (w' : World) : Prop := ∃ C : VT, E = .returned C.val ∧ C.From W.heap.size w' ∧ sameT C T = true ∧ Below W.heap.size W w'
abbrev Z10 : Value := V10 0 false 0 0 0 0 0 ⟨#[]⟩ none 0 0 none 0 0
theorem size_alloc (w : World) (o : Obj) : (w.alloc o).heap.size = w.heap.size + 1 := by simp
/-- What the walk keeps of its own two blocks. -/
structure Own2 (w wx : World) (kd : Int) (g : Bool) (x : Nat) (b : Int) (s : ByteArray) (l k : Value) : Prop where
  below : Below w.heap.size w wx
  row : Row10 wx w.heap.size (.int .i64 kd) (.bool g) (.int .u64 (lb 0 x)) (.int .u64 (lb 1 x)) (.int .u64 (lb 2 x)) (.int .u64 (lb 3 x)) (.int .u64 b) (.string s) l k
  zero : Row10 wx (w.heap.size + 1) (.int .i64 0) (.bool false) (.int .u64 0) (.int .u64 0) (.int .u64 0) (.int .u64 0) (.int .u64 0) (.string ⟨#[]⟩) (.slice none 0 0) (.slice none 0 0)

theorem Own2.start (w : World) (kd : Int) (g : Bool) (x : Nat) (b : Int) (s : ByteArray) (l k : Value) :
    Own2 w ((w.alloc (.cells #[.int .i64 kd, .bool g, .int .u64 (lb 0 x), .int .u64 (lb 1 x), .int .u64 (lb 2 x), .int .u64 (lb 3 x), .int .u64 b, .string s, l, k] 32)).alloc (.cells #[.int .i64 0, .bool false, .int .u64 0, .int .u64 0, .int .u64 0, .int .u64 0, .int .u64 0, .string ⟨#[]⟩, .slice none 0 0, .slice none 0 0] 32)) kd g x b s l k :=
  ⟨bal (bal (Below.refl _ _) _) _, Row10.alloc (Row10.new w _ _ _ _ _ _ _ _ _ _) _, by
    have := Row10.new (w.alloc (.cells #[.int .i64 kd, .bool g, .int .u64 (lb 0 x), .int .u64 (lb 1 x), .int .u64 (lb 2 x), .int .u64 (lb 3 x), .int .u64 b, .string s, l, k] 32)) (.int .i64 0) (.bool false) (.int .u64 0) (.int .u64 0) (.int .u64 0) (.int .u64 0) (.int .u64 0) (.string ⟨#[]⟩) (.slice none 0 0) (.slice none 0 0)
    rwa [size_alloc] at this⟩
section
variable {w wx wy : World} {kd : Int} {g : Bool} {x : Nat} {b : Int} {s : ByteArray} {l k : Value}
theorem Own2.keep (h : Own2 w wx kd g x b s l k) (hb : Below wx.heap.size wx wy) : Own2 w wy kd g x b s l k := ⟨btr h.below hb, h.row.keep hb, h.zero.keep hb⟩
theorem Own2.text (h : Own2 w wx kd g x b s l k) (s' : ByteArray) : Own2 w (wx.setCell ⟨w.heap.size, 7, none⟩ (.string s')) kd g x b s' l k :=
  ⟨bsc h.below (Nat.le_refl _) _, by have := heap_setCell_same wx w.heap.size 7 _ _ (.string s') h.row; simpa [Row10] using this, h.zero.set (by omega) _⟩
theorem Own2.list (h : Own2 w wx kd g x b s l k) (u : Value) : Own2 w (wx.setCell ⟨w.heap.size, 8, none⟩ u) kd g x b s u k :=
  ⟨bsc h.below (Nat.le_refl _) _, by have := heap_setCell_same wx w.heap.size 8 _ _ u h.row; simpa [Row10] using this, h.zero.set (by omega) _⟩
theorem Own2.keys (h : Own2 w wx kd g x b s l k) (u : Value) : Own2 w (wx.setCell ⟨w.heap.size, 9, none⟩ u) kd g x b s l u :=
  ⟨bsc h.below (Nat.le_refl _) _, by have := heap_setCell_same wx w.heap.size 9 _ _ u h.row; simpa [Row10] using this, h.zero.set (by omega) _⟩
theorem Own2.other (h : Own2 w wx kd g x b s l k) {c i : Nat} (hc : w.heap.size + 2 ≤ c) (u : Value) : Own2 w (wx.setCell ⟨c, i, none⟩ u) kd g x b s l k :=
  ⟨bsc h.below (by show w.heap.size ≤ c; omega) _, h.row.set (by omega) _, h.zero.set (by omega) _⟩
theorem Own2.alloc (h : Own2 w wx kd g x b s l k) (o : Obj) : Own2 w (wx.alloc o) kd g x b s l k := ⟨bal h.below o, h.row.alloc o, h.zero.alloc o⟩
theorem Own2.size (h : Own2 w wx kd g x b s l k) : w.heap.size + 2 ≤ wx.heap.size := by have := h.zero.lt; omega
end

/-- A copy, its ten parts written out. -/
def CloneV (W : World) (T : VT) (E : Ending) (w' : World) : Prop :=
  ∃ (kd : Int) (g : Bool) (x : Nat) (b : Int) (s : ByteArray) (la : Option Addr) (lc : Nat) (ka : Option Addr) (kc : Nat) (ks : List ByteArray) (l : List VT),
    E = .returned (V10 kd g (lb 0 x) (lb 1 x) (lb 2 x) (lb 3 x) b s la l.length lc ka ks.length kc) ∧ (VT.mk ⟨kd, g, x, b, s, la, lc, ka, kc, ks⟩ l).From W.heap.size w' ∧ sameT (.mk ⟨kd, g, x, b, s, la, lc, ka, kc, ks⟩ l) T = true ∧ Below W.heap.size W w'
theorem CloneT.v {W : World} {T : VT} {E : Ending} {w' : World} (h : CloneT W T E w') : CloneV W T E w' := by
  obtain ⟨⟨⟨kd, g, x, b, s, la, lc, ka, kc, ks⟩, l⟩, h1, h2, h3, h4⟩ := h
  exact ⟨kd, g, x, b, s, la, lc, ka, kc, ks, l, h1, h2, h3, h4⟩
/-- Ten stores. -/
abbrev put10 (W : World) (c p : Nat) (v0 v1 v2 v3 v4 v5 v6 v7 v8 v9 : Value) : World :=
  (((((((((W.setCell ⟨c, p, none⟩ v0).setCell ⟨c, p + 1, none⟩ v1).setCell ⟨c, p + 2, none⟩ v2).setCell ⟨c, p + 3, none⟩ v3).setCell ⟨c, p + 4, none⟩ v4).setCell ⟨c, p + 5, none⟩ v5).setCell ⟨c, p + 6, none⟩ v6).setCell ⟨c, p + 7, none⟩ v7).setCell ⟨c, p + 8, none⟩ v8).setCell ⟨c, p + 9, none⟩ v9
section
variable {w wx wr w3 : World} {kd : Int} {g : Bool} {x : Nat} {b : Int} {s : ByteArray} {l k : Value} {v0 v1 v2 v3 v4 v5 v6 v7 v8 v9 : Value} {c p gl lo : Nat}
theorem Own2.put10 (h : Own2 w wx kd g x b s l k) (hc : w.heap.size + 2 ≤ c) : Own2 w (put10 wx c p v0 v1 v2 v3 v4 v5 v6 v7 v8 v9) kd g x b s l k :=
  (((((((((h.other hc _).other hc _).other hc _).other hc _).other hc _).other hc _).other hc _).other hc _).other hc _).other hc _
theorem Cur.put10 {e : TypeId} {xs : List Value} {q : Nat} (h : Cur wx q e xs) (hc : q ≠ c) : Cur (put10 wx c p v0 v1 v2 v3 v4 v5 v6 v7 v8 v9) q e xs :=
  (((((((((h.other hc _).other hc _).other hc _).other hc _).other hc _).other hc _).other hc _).other hc _).other hc _).other hc _
theorem kept_put10 (hc : c < lo) : Kept lo wx (put10 wx c p v0 v1 v2 v3 v4 v5 v6 v7 v8 v9) :=
  ((((((((((kept_set hc _).trans (by simp) (kept_set hc _)).trans (by simp) (kept_set hc _)).trans (by simp) (kept_set hc _)).trans (by simp) (kept_set hc _)).trans (by simp) (kept_set hc _)).trans (by simp) (kept_set hc _)).trans (by simp) (kept_set hc _)).trans (by simp) (kept_set hc _)).trans (by simp) (kept_set hc _))
theorem put10_cell {q j : Nat} {v : Value} (h : wx.cell? ⟨q, j, none⟩ = some v) (hc : q ≠ c) : (put10 wx c p v0 v1 v2 v3 v4 v5 v6 v7 v8 v9).cell? ⟨q, j, none⟩ = some v :=
  cell_set_other (cell_set_other (cell_set_other (cell_set_other (cell_set_other (cell_set_other (cell_set_other (cell_set_other (cell_set_other (cell_set_other h hc _) hc _) hc _) hc _) hc _) hc _) hc _) hc _) hc _) hc _
/-- So far in the list: copies, and what is not copied yet. -/
def LoopL (gl : Nat) (wr : World) (kids : List VT) (la : Option Addr) (k : Nat) : Prop :=
  ∃ Cs : List VT, Cs.length = k ∧ (∀ (j : Nat) (c t : VT), Cs[j]? = some c → kids[j]? = some t → c.From (gl + 1) wr ∧ sameT c t = true) ∧ (0 < kids.length → la = some ⟨gl, 0, none⟩ ∧ Cur wr gl 32 (newsV (Cs ++ kids.drop k)))
theorem LoopL.start {kids : List VT} {la : Option Addr} (h : 0 < kids.length → la = some ⟨gl, 0, none⟩ ∧ Cur wr gl 32 (newsV kids)) : LoopL gl wr kids la 0 :=
  ⟨[], rfl, fun j c t h => by simp at h, fun h0 => by simpa using h h0⟩
theorem drop_at {α : Type} {l : List α} {k : Nat} {t : α} (h : l[k]? = some t) : l.drop k = t :: l.drop (k + 1) := by
  obtain ⟨hl, rfl⟩ := List.getElem?_eq_some_iff.1 h
  exact List.drop_eq_getElem_cons hl
theorem LoopL.cells {kids : List VT} {la : Option Addr} {k : Nat} {t : VT} (h : LoopL gl wr kids la k) (ht : kids[k]? = some t) : la = some ⟨gl, 0, none⟩ ∧ Cells10 wr gl (k * 10) t ∧ (∀ j, wr.frozen? ⟨gl, j, none⟩ = false) ∧ gl < wr.heap.size := by
  obtain ⟨Cs, h1, h2, h3⟩ := h
  obtain ⟨h4, h5⟩ := h3 (by have := (List.getElem?_eq_some_iff.1 ht).1; omega)
  refine ⟨h4, fun j u hu => h5.cell (newsV_cell (t := t) ?_ hu), fun j => h5.free j, h5.lt⟩
  rw [List.getElem?_append_right (by omega), drop_at ht, h1, Nat.sub_self]; rfl
theorem LoopL.next {kids : List VT} {la : Option Addr} {k : Nat} {t : VT} {x' : Nat} {g' : Bool} {kd' b' : Int} {s' : ByteArray} {la' : Option Addr} {lc' : Nat} {ka' : Option Addr} {kc' : Nat} {ks' : List ByteArray} {l' : List VT}
    (h : LoopL gl wr kids la k) (ht : kids[k]? = some t) (hb : Below wr.heap.size wr w3) (hlo : gl + 1 ≤ lo) (hF : (VT.mk ⟨kd', g', x', b', s', la', lc', ka', kc', ks'⟩ l').From lo w3) (hS : sameT (VT.mk ⟨kd', g', x', b', s', la', lc', ka', kc', ks'⟩ l') t = true) :
    LoopL gl (put10 w3 gl (k * 10) (.int .i64 kd') (.bool g') (.int .u64 (lb 0 x')) (.int .u64 (lb 1 x')) (.int .u64 (lb 2 x')) (.int .u64 (lb 3 x')) (.int .u64 b') (.string s') (.slice la' l'.length lc') (.slice ka' ks'.length kc')) kids la (k + 1) := by
  obtain ⟨Cs, h1, h2, h3⟩ := h
  refine ⟨Cs ++ [VT.mk ⟨kd', g', x', b', s', la', lc', ka', kc', ks'⟩ l'], by simp [h1], fun j c u hc hu => ?_, fun h0 => ?_⟩
  · rcases Nat.lt_trichotomy j Cs.length with hj | hj | hj
    · rw [List.getElem?_append_left hj] at hc
      obtain ⟨a1, a2⟩ := h2 j c u hc hu
      exact ⟨(a1.kept (kept_below hb)).kept (kept_put10 (by omega)), a2⟩
    · subst hj
      rw [List.getElem?_append_right (Nat.le_refl _), Nat.sub_self] at hc
      cases hc
      rw [h1, ht] at hu
      cases hu
      exact ⟨(hF.mono hlo).kept (kept_put10 (by omega)), hS⟩
    · rw [List.getElem?_append_right (by omega), List.getElem?_eq_none (by simp; omega)] at hc
      cases hc
  · obtain ⟨a1, a2⟩ := h3 h0
    refine ⟨a1, ?_⟩
    rw [drop_at ht] at a2
    have a3 := (((((((((((a2.keep hb).set (k * 10) (.int .i64 kd')).set (k * 10 + 1) (.bool g')).set (k * 10 + 2) (.int .u64 (lb 0 x'))).set (k * 10 + 3) (.int .u64 (lb 1 x'))).set (k * 10 + 4) (.int .u64 (lb 2 x'))).set (k * 10 + 5) (.int .u64 (lb 3 x'))).set (k * 10 + 6) (.int .u64 b')).set (k * 10 + 7) (.string s')).set (k * 10 + 8) (.slice la' l'.length lc')).set (k * 10 + 9) (.slice ka' ks'.length kc'))
    rw [set_ten h1] at a3
    rw [List.append_assoc]
    exact a3
end

theorem eqO_self (k : Int) (g : Bool) (a0 a1 a2 a3 b : Int) (s : ByteArray) (m n : Int) : eqO k g a0 a1 a2 a3 b s m n k g a0 a1 a2 a3 b s m n = true := by
  simp [eqO, eq5, eq4]
theorem keysEq_self (a : List ByteArray) : keysEq a a = true := by
  unfold keysEq
  rw [decide_eq_true rfl, Bool.true_and, List.all_eq_true]
  have hz : ∀ (b : List ByteArray) (q : ByteArray × ByteArray), q ∈ b.zip b → q.1 = q.2 := by
    intro b
    induction b with
    | nil => intro q h; simp at h
    | cons c b ihb =>
      intro q h
      rw [List.zip_cons_cons] at h
      rcases List.mem_cons.1 h with rfl | h
      · rfl
      · exact ihb q h
  intro p hp
  rw [hz a p hp]
  simp
theorem kidsEq_of {a b : List VT} (hl : a.length = b.length) (h : ∀ (j : Nat) (c t : VT), a[j]? = some c → b[j]? = some t → sameT c t = true) : kidsEq (a.map fun k => sameT k) b = true := by
  unfold kidsEq
  rw [List.length_map, decide_eq_true hl, Bool.true_and, List.zip_map_left, List.all_eq_true]
  intro p hp
  obtain ⟨q, hq, rfl⟩ := List.mem_map.1 hp
  obtain ⟨i, hi⟩ := List.getElem?_of_mem hq
  rw [List.getElem?_zip_eq_some] at hi
  exact h i q.1 q.2 hi.1 hi.2
theorem clone_end {w wr : World} {kd : Int} {g : Bool} {x : Nat} {b : Int} {s : ByteArray} {la : Option Addr} {lc : Nat} {ka : Option Addr} {kc : Nat} {keys : List ByteArray} {kids : List VT} {la' : Option Addr} {lc' : Nat} {ka' : Option Addr} {kc' : Nat} {gk gl : Nat} {l k : Value}
    (wf : Own.WF ⟨kd, g, x, b, s, la, lc, ka, kc, keys⟩ kids.length) (hkc : keys.length ≤ kc' ∧ kc' ≤ maxLen) (hlc : kids.length ≤ lc' ∧ lc' ≤ maxLen) (hgk : w.heap.size + 2 ≤ gk) (hgl : w.heap.size + 2 ≤ gl)
    (hO : Own2 w wr kd g x b s l k) (hK : 0 < keys.length → ka' = some ⟨gk, 0, none⟩ ∧ Cur wr gk 9 (keys.map Value.string) ∧ gk < gl) (hL : LoopL gl wr kids la' kids.length) :
    CloneT w (.mk ⟨kd, g, x, b, s, la, lc, ka, kc, keys⟩ kids) (.returned (V10 kd g (lb 0 x) (lb 1 x) (lb 2 x) (lb 3 x) b s la' kids.length lc' ka' keys.length kc'))
      (put10 wr (w.heap.size + 1) 0 (.int .i64 kd) (.bool g) (.int .u64 (lb 0 x)) (.int .u64 (lb 1 x)) (.int .u64 (lb 2 x)) (.int .u64 (lb 3 x)) (.int .u64 b) (.string s) (.slice la' kids.length lc') (.slice ka' keys.length kc')) := by
  obtain ⟨Cs, h1, h2, h3⟩ := hL
  obtain ⟨w1, w2, w3, w4, w5, w6, w7⟩ := wf
  have hkp : ∀ {lo : Nat}, w.heap.size + 2 ≤ lo → Kept lo wr (put10 wr (w.heap.size + 1) 0 (.int .i64 kd) (.bool g) (.int .u64 (lb 0 x)) (.int .u64 (lb 1 x)) (.int .u64 (lb 2 x)) (.int .u64 (lb 3 x)) (.int .u64 b) (.string s) (.slice la' kids.length lc') (.slice ka' keys.length kc')) := fun h => kept_put10 (by omega)
  refine ⟨.mk ⟨kd, g, x, b, s, la', lc', ka', kc', keys⟩ Cs, ?_, ?_, ?_, ?_⟩
  · show _ = Ending.returned (V10 kd g (lb 0 x) (lb 1 x) (lb 2 x) (lb 3 x) b s la' Cs.length lc' ka' keys.length kc')
    rw [h1]
  · refine .mk _ _ ⟨w1, w2, w3, w4, by rw [h1]; exact hlc, hkc, w7⟩ ⟨gk, 0, by omega, fun h => (hK h).1, fun i t ht => ?_⟩ ⟨gl, 0, by omega, fun h => (h3 (by omega)).1, fun i t ht => ?_⟩ (fun i t ht => ?_)
    · have h0 : 0 < keys.length := by have := (List.getElem?_eq_some_iff.1 ht).1; simp only at this; omega
      refine kept_cell (hkp (Nat.le_refl _)) hgk ?_
      rw [Nat.zero_add]
      refine (hK h0).2.1.cell ?_
      rw [List.getElem?_map]
      simp only at ht
      rw [ht]; rfl
    · have hi := (List.getElem?_eq_some_iff.1 ht).1
      have hc := (h3 (by omega)).2
      rw [List.drop_of_length_le (Nat.le_refl _), List.append_nil] at hc
      intro j u hu
      refine kept_cell (hkp (Nat.le_refl _)) hgl ?_
      have := hc.cell (newsV_cell ht hu)
      rwa [show 0 + i * 10 + j = i * 10 + j by omega]
    · have hi := (List.getElem?_eq_some_iff.1 ht).1
      obtain ⟨t', ht', _⟩ := kid_at (kids := kids) (k := i) (by omega)
      exact ((h2 i t t' ht ht').1.kept (hkp (by omega))).mono (by omega)
  · rw [sameT]
    simp only [VT.o_mk, VT.kids_mk]
    rw [h1, eqO_self, keysEq_self, kidsEq_of h1 (fun j c t hc ht => (h2 j c t hc ht).2)]
    rfl
  · exact vbsc10 hO.below (by omega) _ _ _ _ _ _ _ _ _ _

end Go.Proofs.YtpgpodjmdflmeaaGreatDoor
end
section
namespace Go.Proofs.YtpgpodjmdflmeaaGreatDoor
open Go.RowKit Go.Shelf

/-- What Get answers: a member's copy, and true; or nothing. -/
def GetNo (w : World) (E : Ending) (w' : World) : Prop := E = .returned (.tuple #[Z10, .bool false]) ∧ Below w.heap.size w w'
def GetYes (w : World) (t : VT) (E : Ending) (w' : World) : Prop :=
  ∃ (kd : Int) (g : Bool) (x : Nat) (b : Int) (s : ByteArray) (la : Option Addr) (lc : Nat) (ka : Option Addr) (kc : Nat) (ks : List ByteArray) (l : List VT),
    E = .returned (.tuple #[V10 kd g (lb 0 x) (lb 1 x) (lb 2 x) (lb 3 x) b s la l.length lc ka ks.length kc, .bool true]) ∧ (VT.mk ⟨kd, g, x, b, s, la, lc, ka, kc, ks⟩ l).From w.heap.size w' ∧ sameT (.mk ⟨kd, g, x, b, s, la, lc, ka, kc, ks⟩ l) t = true ∧ Below w.heap.size w w'

/-- A map's member by its name. -/
def getO (kd : Int) (keys : List ByteArray) (kids : List VT) (name : ByteArray) : Option VT := if kd = 8 ∧ 0 ≤ idxN keys name then kids[(idxN keys name).toNat]? else none
def getT (T : VT) (name : ByteArray) : Option VT := getO T.o.kind T.o.keys T.kids name
def GetIs (r : Option VT) (w : World) (E : Ending) (w' : World) : Prop :=
  match r with
  | some t => GetYes w t E w'
  | none => GetNo w E w'
end Go.Proofs.YtpgpodjmdflmeaaGreatDoor
end
section
namespace Go.Proofs.YtpgpodjmdflmeaaGreatDoor
open Go.RowKit Go.Shelf

set_option maxHeartbeats 1000000 in
theorem rnumber_yes (b : Int) (g : Bool) (x0 x1 x2 x3 : Int) (w : World)
    (k1 : ∀ W, Below w.heap.size w W → Calls Tryz.prog 23 #[.int .u64 b] W fun e w' => e = .returned (.tuple #[.agg #[.bool g, .int .u64 x0, .int .u64 x1, .int .u64 x2, .int .u64 x3], .bool true]) ∧ Below W.heap.size W w') :
    Calls Tryz.prog 13 #[.int .u64 b] w fun e w' => e = .returned (V10 3 g x0 x1 x2 x3 0 ⟨#[]⟩ none 0 0 none 0 0) ∧ Below w.heap.size w w' := by
  have K1 := Lib.hid k1
  clear k1
  go_enter Tryz.func13, Tryz.ntmps13
  go_wp2_with fail
  ((with_reducible refine (K1.out _ (bal (Below.refl _ _) _)).mono ?_); rintro e w1 ⟨rfl, hb1⟩)
  have R := Row10.keep hb1 (Row10.new w (.int .i64 0) (.bool false) (.int .u64 0) (.int .u64 0) (.int .u64 0) (.int .u64 0) (.int .u64 0) (.string ⟨#[]⟩) (.slice none 0 0) (.slice none 0 0))
  have B1 := Lib.hid (btr (bal (Below.refl _ w) _) hb1)
  obtain ⟨p0, p1, p2, p3, p4, p5, p6, p7, p8, p9⟩ := R.parts
  have hf := R.free
  have hlt := R.lt
  clear hb1
  go_wp2
  have RN := fun o => ((R.set10 (.int .i64 3) (.bool g) (.int .u64 x0) (.int .u64 x1) (.int .u64 x2) (.int .u64 x3) (.int .u64 0) (.string ⟨#[]⟩) (.slice none 0 0) (.slice none 0 0)).alloc o).parts
  have q0 := fun o => (RN o).1
  have q1 := fun o => (RN o).2.1
  have q2 := fun o => (RN o).2.2.1
  have q3 := fun o => (RN o).2.2.2.1
  have q4 := fun o => (RN o).2.2.2.2.1
  have q5 := fun o => (RN o).2.2.2.2.2.1
  have q6 := fun o => (RN o).2.2.2.2.2.2.1
  have q7 := fun o => (RN o).2.2.2.2.2.2.2.1
  have q8 := fun o => (RN o).2.2.2.2.2.2.2.2.1
  have q9 := fun o => (RN o).2.2.2.2.2.2.2.2.2
  clear RN
  exact bodyPost_ret (v := V10 3 g x0 x1 x2 x3 0 ⟨#[]⟩ none 0 0 none 0 0) (by simp [results, Tryz.results13, go_sem, q0, q1, q2, q3, q4, q5, q6, q7, q8, q9]) rfl ⟨rfl, bal (vbsc10 B1.out (Nat.le_refl _) _ _ _ _ _ _ _ _ _ _) _⟩
set_option maxHeartbeats 1000000 in
theorem rnumber_no (b c : Int) (w : World)
    (k1 : ∀ W, Below w.heap.size w W → Calls Tryz.prog 23 #[.int .u64 b] W fun e w' => e = .returned (.tuple #[Z5, .bool false]) ∧ Below W.heap.size W w')
    (k2 : ∀ W, Below w.heap.size w W → Calls Tryz.prog 24 #[.int .u64 b] W fun e w' => e = .returned (.int .u64 c) ∧ Below W.heap.size W w') :
    Calls Tryz.prog 13 #[.int .u64 b] w fun e w' => e = .returned (V10 4 false 0 0 0 0 c ⟨#[]⟩ none 0 0 none 0 0) ∧ Below w.heap.size w w' := by
  have K1 := Lib.hid k1; have K2 := Lib.hid k2
  clear k1 k2
  go_enter Tryz.func13, Tryz.ntmps13
  go_wp2_with fail
  ((with_reducible refine (K1.out _ (bal (Below.refl _ _) _)).mono ?_); rintro e w1 ⟨rfl, hb1⟩)
  have R := Row10.keep hb1 (Row10.new w (.int .i64 0) (.bool false) (.int .u64 0) (.int .u64 0) (.int .u64 0) (.int .u64 0) (.int .u64 0) (.string ⟨#[]⟩) (.slice none 0 0) (.slice none 0 0))
  have B1 := Lib.hid (btr (bal (Below.refl _ w) _) hb1)
  obtain ⟨p0, p1, p2, p3, p4, p5, p6, p7, p8, p9⟩ := R.parts
  have hf := R.free
  have hlt := R.lt
  clear hb1
  go_wp2_with (go_at_call 24; ((with_reducible refine (K2.out _ (bal B1.out _)).mono ?_); rintro e w2 ⟨rfl, hb2⟩; have B2 := Lib.hid (btr (bal B1.out _) hb2); have R2 := Row10.keep hb2 (Row10.alloc R _); obtain ⟨s0, s1, s2, s3, s4, s5, s6, s7, s8, s9⟩ := R2.parts; have hf2 := R2.free; have hlt2 := R2.lt))
  have RN := (R2.set10 (.int .i64 4) (.bool false) (.int .u64 0) (.int .u64 0) (.int .u64 0) (.int .u64 0) (.int .u64 c) (.string ⟨#[]⟩) (.slice none 0 0) (.slice none 0 0)).parts
  obtain ⟨q0, q1, q2, q3, q4, q5, q6, q7, q8, q9⟩ := RN
  exact bodyPost_ret (v := V10 4 false 0 0 0 0 c ⟨#[]⟩ none 0 0 none 0 0) (by simp [results, Tryz.results13, go_sem, q0, q1, q2, q3, q4, q5, q6, q7, q8, q9]) rfl ⟨rfl, vbsc10 B2.out (Nat.le_refl _) _ _ _ _ _ _ _ _ _ _⟩

/-- What the reference's Get answers: a member itself, and true; or nothing. -/
def RGet (r : Option VT) (w : World) (E : Ending) (w' : World) : Prop :=
  match r with
  | some t => E = .returned (.tuple #[t.val, .bool true]) ∧ Below w.heap.size w w'
  | none => E = .returned (.tuple #[Z10, .bool false]) ∧ Below w.heap.size w w'
theorem idxN_ge {keys : List ByteArray} {name : ByteArray} {k : Nat} (hno : ∀ j < k, ∀ k', keys[j]? = some k' → (k'.toList == name.toList) = false) (h : 0 ≤ idxN keys name) : k ≤ (idxN keys name).toNat := by
  unfold idxN at h ⊢
  cases hf : keys.findIdx? (fun k => name.toList == k.toList) with
  | none => rw [hf] at h; exact absurd h (by decide)
  | some i =>
    rw [List.findIdx?_eq_some_iff_getElem] at hf
    obtain ⟨hl, he, _⟩ := hf
    show k ≤ ((i : Nat) : Int).toNat
    rw [Int.toNat_natCast]
    rcases Nat.lt_or_ge i k with h1 | h1
    · have := hno i h1 keys[i] (List.getElem?_eq_getElem hl)
      simp only [beq_iff_eq] at he
      rw [he] at this
      simp at this
    · exact h1
theorem getO_kind {kd : Int} {keys : List ByteArray} {kids : List VT} {name : ByteArray} (h : kd ≠ 8) : getO kd keys kids name = none := by unfold getO; rw [if_neg (fun e => h e.1)]
theorem getO_hit {kd : Int} {keys : List ByteArray} {kids : List VT} {name key : ByteArray} {k : Nat} (hk : kd = 8) (hkey : keys[k]? = some key) (he : (key.toList == name.toList) = true) (hno : ∀ j < k, ∀ k', keys[j]? = some k' → (k'.toList == name.toList) = false) : getO kd keys kids name = kids[k]? := by
  have : idxN keys name = k := idxN_hit hkey (by simp only [beq_iff_eq] at he ⊢; exact he.symm) fun j hj k' hk' => by
    have := hno j hj k' hk'
    rw [beq_eq_false_iff_ne] at this ⊢
    exact fun e => this e.symm
  unfold getO
  rw [this, if_pos ⟨hk, by omega⟩, Int.toNat_natCast]
theorem getO_end {kd : Int} {keys : List ByteArray} {kids : List VT} {name : ByteArray} {k : Nat} (hno : ∀ j < k, ∀ k', keys[j]? = some k' → (k'.toList == name.toList) = false) (hk : keys.length ≤ k ∨ kids.length ≤ k) : getO kd keys kids name = none := by
  unfold getO
  by_cases h : kd = 8 ∧ 0 ≤ idxN keys name
  · rw [if_pos h]
    have h1 := idxN_ge hno h.2
    have h2 : (idxN keys name).toNat < keys.length := by
      have h0 := h.2
      unfold idxN at h0 ⊢
      cases hf : keys.findIdx? (fun k => name.toList == k.toList) with
      | none => rw [hf] at h0; exact absurd h0 (by decide)
      | some i =>
        rw [List.findIdx?_eq_some_iff_getElem] at hf
        obtain ⟨hl, _, _⟩ := hf
        simpa using hl
    exact List.getElem?_eq_none (by omega)
  · rw [if_neg h]
end Go.Proofs.YtpgpodjmdflmeaaGreatDoor
end
section
namespace Go.Proofs.YtpgpodjmdflmeaaGreatDoor
open Go.RowKit Go.Shelf
open Go.Sort (grow)

/-- A member's copy, or nothing, by its bool: the same in all parts as a value. -/
def GetA (w : World) (U : VT) (q : Bool) (E : Ending) (w' : World) : Prop :=
  ∃ (kd : Int) (g : Bool) (x : Nat) (b : Int) (s : ByteArray) (la : Option Addr) (lc : Nat) (ka : Option Addr) (kc : Nat) (ks : List ByteArray) (l : List VT),
    E = .returned (.tuple #[V10 kd g (lb 0 x) (lb 1 x) (lb 2 x) (lb 3 x) b s la l.length lc ka ks.length kc, .bool q]) ∧ (VT.mk ⟨kd, g, x, b, s, la, lc, ka, kc, ks⟩ l).In w' ∧ sameT (.mk ⟨kd, g, x, b, s, la, lc, ka, kc, ks⟩ l) U = true ∧ Below w.heap.size w w'
end Go.Proofs.YtpgpodjmdflmeaaGreatDoor
end
section
namespace Go.Proofs.YtpgpodjmdflmeaaGreatDoor
open Go.RowKit Go.Shelf

/-- A value of a kind, a whole number and bits alone. -/
def leafG (k : Int) (g : Bool) (x : Nat) (b : Int) : VT := .mk ⟨k, g, x, b, ⟨#[]⟩, none, 0, none, 0, []⟩ []
section
variable {k : Int} {g : Bool} {x : Nat} {b : Int}
theorem leafG_in (hk : -100 ≤ k ∧ k ≤ 100) (hx : x < 2 ^ 256) (hb : 0 ≤ b ∧ b ≤ 18446744073709551615) (w : World) : (leafG k g x b).In w :=
  .mk _ _ ⟨⟨by show _ ≤ k; omega, by show k ≤ _; omega⟩, hx, hb, Nat.zero_le _, ⟨Nat.le_refl _, Nat.zero_le _⟩, ⟨Nat.le_refl _, Nat.zero_le _⟩, fun s h => by cases h⟩
    ⟨0, 0, fun h => absurd h (by simp), fun i s h => by simp at h⟩ ⟨0, 0, fun h => absurd h (by simp), fun i s h => by simp at h⟩ (fun i t h => by simp at h)
theorem leafG_q (hk : -100 ≤ k ∧ k ≤ 100) (hx : x < 2 ^ 256) (hb : 0 ≤ b ∧ b ≤ 18446744073709551615) (w : World) (hT : Tb w) : Qv (leafG k g x b) w :=
  ⟨leafG_in hk hx hb w, hT, .mk _ _ ⟨Nat.zero_le _, fun s h => by cases h⟩ (fun t h => by cases h)⟩
theorem leafG_nodes : (leafG k g x b).nodes = 1 := by unfold leafG; rw [VT.nodes_mk]; rfl
theorem leafG_may (h34 : k = 3 ∨ k = 4) (hq : ownB (leafG k g x b).o 0 = true) : mayN (leafG k g x b) = 0 := by
  have ho : overT (leafG k g x b) = false := by
    show overB (leafG k g x b).o 0 = false
    rcases h34 with rfl | rfl <;> rfl
  have hd : (leafG k g x b).depth = 1 := by unfold leafG; rw [VT.depth_mk]; rfl
  have hh : ∀ p, hasT p (leafG k g x b) = p (leafG k g x b) := fun p => by rw [hasT_mk]; simp [leafG]
  unfold mayN
  rw [hd, if_neg (by omega), hh, ho, if_neg (by simp), hh]
  have : wrongT (leafG k g x b) = !true := by rw [← hq]; rfl
  rw [this]; rfl
theorem leafG_same : sameT (leafG k g x b) (leafG k g x b) = true := by
  unfold leafG
  rw [sameT]
  simp only [VT.o_mk, VT.kids_mk]
  rw [eqO_self, keysEq_self, kidsEq_of rfl (fun j c t hc _ => by simp at hc)]
  rfl
end
theorem whole_own (z : Int) (hz : z.natAbs < 2 ^ 256) : ownB (leafG 3 (decide (z < 0)) z.natAbs 0).o 0 = true := by
  have : outB (leafG 3 (decide (z < 0)) z.natAbs 0).o 0 = true := by
    show eqO 3 (decide (z < 0)) (lb 0 z.natAbs) (lb 1 z.natAbs) (lb 2 z.natAbs) (lb 3 z.natAbs) 0 ⟨#[]⟩ ((0 : Nat) : Int) ((0 : Nat) : Int) 3 (decide (z < 0)) (lb 0 z.natAbs) (lb 1 z.natAbs) (lb 2 z.natAbs) (lb 3 z.natAbs) 0 ⟨#[]⟩ ((0 : Nat) : Int) ((0 : Nat) : Int) = true
    exact eqO_same _ _ _ _ _ _ _ _ _ _
  unfold ownB
  rw [this]
  show (true && okI (decide (z < 0)) z.natAbs) = true
  unfold okI
  have h := eq5_int (decide (z < 0)) true z.natAbs 0 hz (by decide)
  simp only [lb_zero] at h
  rw [h, decide_eq_false]
  · rfl
  · intro e
    obtain ⟨e1, e2⟩ := e
    have := of_decide_eq_true e1
    omega
theorem float_own (b : Nat) (hw : whl b = none) : ownB (leafG 4 false 0 (can b : Nat)).o 0 = true := by
  have hout : outB (leafG 4 false 0 (can b : Nat)).o 0 = true := by
    show eqO 4 false (lb 0 0) (lb 1 0) (lb 2 0) (lb 3 0) ((can b : Nat) : Int) ⟨#[]⟩ ((0 : Nat) : Int) ((0 : Nat) : Int) 4 false 0 0 0 0 ((can b : Nat) : Int) ⟨#[]⟩ ((0 : Nat) : Int) ((0 : Nat) : Int) = true
    simp only [lb_zero]
    exact eqO_same _ _ _ _ _ _ _ _ _ _
  unfold ownB
  rw [hout]
  show (true && mayF ((can b : Nat) : Int).toNat) = true
  rw [Int.toNat_natCast, Bool.true_and]
  unfold mayF
  by_cases h : INF < rg b
  · rw [can_nan h]
    decide +kernel
  · rw [can_id (by omega), can_id (by omega)]
    have : cls b ≠ 0 := by
      unfold cls
      rw [if_neg h, hw]
      split
      · split <;> omega
      · simp
        split <;> omega
    simp [this]
/-- What a float's bits mean: as a value. -/
def numT (b : Nat) : VT :=
  match whl b with
  | some n => leafG 3 (decide ((if sg b = 1 then -(n : Int) else n) < 0)) (if sg b = 1 then -(n : Int) else n).natAbs 0
  | none => leafG 4 false 0 (can b : Nat)
theorem can_lt (b : Nat) (hb : b < 18446744073709551616) : can b < 18446744073709551616 := by
  unfold can
  split
  · decide
  · exact hb
/-- All that the walk asks of a number: it lies in any memory, is the same as itself, may be; both sides answer it. -/
theorem num_all (b : Nat) (hb : b < 18446744073709551616) : ∃ (kn : Int) (gn : Bool) (xn : Nat) (bn : Int), (∀ W, VT.In W (leafG kn gn xn bn)) ∧ sameT (leafG kn gn xn bn) (leafG kn gn xn bn) = true ∧
    (∀ W, Tb W → Calls Tryz.prog 104 #[.int .u64 (b : Nat)] W fun e w' => e = .returned (V10 kn gn (lb 0 xn) (lb 1 xn) (lb 2 xn) (lb 3 xn) bn ⟨#[]⟩ none 0 0 none 0 0) ∧ Below W.heap.size W w') ∧
    (∀ W, Calls Tryz.prog 13 #[.int .u64 (b : Nat)] W fun e w' => e = .returned (V10 kn gn (lb 0 xn) (lb 1 xn) (lb 2 xn) (lb 3 xn) bn ⟨#[]⟩ none 0 0 none 0 0) ∧ Below W.heap.size W w') ∧
    (∀ W, Tb W → Calls Tryz.prog 19 #[V10 kn gn (lb 0 xn) (lb 1 xn) (lb 2 xn) (lb 3 xn) bn ⟨#[]⟩ none 0 0 none 0 0] W fun e w' => e = .returned (.int .i64 0) ∧ Below W.heap.size W w') := by
  have hw1 := fun W hW => whole_any b hb W hW
  have hw2 := fun W => rfwhole b hb W
  unfold WEnd at hw1 hw2
  cases hw : whl b with
  | some n =>
    rw [hw] at hw1 hw2
    have hn : n < 2 ^ 256 := by
      unfold whl at hw
      split at hw
      · rename_i h; cases hw; exact h.2.2
      · cases hw
    obtain ⟨z, hz⟩ : ∃ z : Int, z = if sg b = 1 then -(n : Int) else n := ⟨_, rfl⟩
    have hz2 : z.natAbs < 2 ^ 256 := by rw [hz]; split <;> omega
    simp only at hw1 hw2
    rw [← hz] at hw1 hw2
    refine ⟨3, decide (z < 0), z.natAbs, 0, leafG_in (by omega) hz2 (by omega), leafG_same, fun W hW => ?_, fun W => ?_, fun W hW => ?_⟩
    · exact number_yes b _ _ _ _ _ W fun W' hb' => hw1 W' (tb_on hW hb')
    · exact rnumber_yes b _ _ _ _ _ W fun W' _ => hw2 W'
    · have := vmay (leafG 3 (decide (z < 0)) z.natAbs 0) (by rw [leafG_nodes]; omega) W (leafG_q (by omega) hz2 (by omega) W hW)
      rw [leafG_may (.inl rfl) (whole_own z hz2)] at this
      exact this
  | none =>
    rw [hw] at hw1 hw2
    simp only at hw1 hw2
    have hc := can_lt b hb
    have e : V10 4 false (lb 0 0) (lb 1 0) (lb 2 0) (lb 3 0) ((can b : Nat) : Int) ⟨#[]⟩ none 0 0 none 0 0 = V10 4 false 0 0 0 0 ((can b : Nat) : Int) ⟨#[]⟩ none 0 0 none 0 0 := by simp only [lb_zero]
    refine ⟨4, false, 0, (can b : Nat), leafG_in (by omega) (by omega) (by omega), leafG_same, fun W hW => ?_, fun W => ?_, fun W hW => ?_⟩
    · rw [e]
      exact number_no b _ W (fun W' hb' => hw1 W' (tb_on hW hb')) (fun W' => (canon_any b hb W').mono fun _ _ h => ⟨h.1, h.2.symm⟩)
    · rw [e]
      exact rnumber_no b _ W (fun W' _ => hw2 W') (fun W' _ => rcanon b hb W')
    · have := vmay (leafG 4 false 0 (can b : Nat)) (by rw [leafG_nodes]; omega) W (leafG_q (by omega) (by omega) (by omega) W hW)
      rw [leafG_may (.inr rfl) (float_own b hw)] at this
      exact this

theorem pick_at (bits : Int) (keys : List ByteArray) (hk : ¬ keys.length = 0) (h4 : keys.length ≤ 400) :
    ∃ (j : Nat), wrap64 (bits / 2 % (keys.length : Int)) = (j : Int) ∧ j < keys.length ∧ ∃ key, keys[j]? = some key := by
  have hm0 := Int.emod_nonneg (bits / 2) (show (keys.length : Int) ≠ 0 by omega)
  have hm1 := Int.emod_lt_of_pos (bits / 2) (show (0 : Int) < (keys.length : Int) by omega)
  obtain ⟨j, hj⟩ : ∃ j : Nat, bits / 2 % (keys.length : Int) = (j : Int) := ⟨(bits / 2 % (keys.length : Int)).toNat, by omega⟩
  have hjl : j < keys.length := by omega
  refine ⟨j, ?_, hjl, keys[j], List.getElem?_eq_getElem hjl⟩
  rw [hj]
  unfold wrap64
  omega
theorem getO_mem {kd : Int} {keys : List ByteArray} {kids : List VT} {name : ByteArray} {t : VT} (h : getO kd keys kids name = some t) : t ∈ kids := by
  unfold getO at h
  split at h
  · exact List.mem_of_getElem? h
  · cases h
end Go.Proofs.YtpgpodjmdflmeaaGreatDoor
end
