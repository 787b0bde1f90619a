/-
  value.clone: the contract: a value that is the same in all parts, in blocks of its own.
-/
import Derived.Test.YtjdogiehcgfmjaaDoorGH
import Derived.Test.YtjdogiehcgfmjaaDoorGU
import Derived.Test.YtjdogiehcgfmjaaDoorValNumber
import Derived.Test.YtjdogiehcgfmjaaDoorR6Long
import Derived.Deep.Cut
import Derived.Deep.RegionHeld3
import Derived.Deep.DeepCutAuto
namespace Go.Proofs.YtjdogiehcgfmjaaDoor
open Go.RowKit Go.Shelf

/-- A value's copy. -/
def CloneT (W : World) (T : VT) (E : Ending) (w' : World) : Prop := ∃ C : VT, E = .returned C.val ∧ C.From W.heap.size w' ∧ sameT C T = true ∧ Below W.heap.size W w'
abbrev Z10 : Value := V10 0 false 0 0 0 0 0 ⟨#[]⟩ none 0 0 none 0 0
theorem size_alloc (w : World) (o : Obj) : (w.alloc o).heap.size = w.heap.size + 1 := by simp
/-- What the walk keeps of its own two blocks. -/
structure Own2 (w wx : World) (kd : Int) (g : Bool) (x : Nat) (b : Int) (s : ByteArray) (l k : Value) : Prop where
  below : Below w.heap.size w wx
  row : Row10 wx w.heap.size (.int .i64 kd) (.bool g) (.int .u64 (lb 0 x)) (.int .u64 (lb 1 x)) (.int .u64 (lb 2 x)) (.int .u64 (lb 3 x)) (.int .u64 b) (.string s) l k
  zero : Row10 wx (w.heap.size + 1) (.int .i64 0) (.bool false) (.int .u64 0) (.int .u64 0) (.int .u64 0) (.int .u64 0) (.int .u64 0) (.string ⟨#[]⟩) (.slice none 0 0) (.slice none 0 0)

theorem Own2.start (w : World) (kd : Int) (g : Bool) (x : Nat) (b : Int) (s : ByteArray) (l k : Value) :
    Own2 w ((w.alloc (.cells #[.int .i64 kd, .bool g, .int .u64 (lb 0 x), .int .u64 (lb 1 x), .int .u64 (lb 2 x), .int .u64 (lb 3 x), .int .u64 b, .string s, l, k] 31)).alloc (.cells #[.int .i64 0, .bool false, .int .u64 0, .int .u64 0, .int .u64 0, .int .u64 0, .int .u64 0, .string ⟨#[]⟩, .slice none 0 0, .slice none 0 0] 31)) kd g x b s l k :=
  ⟨bal (bal (Below.refl _ _) _) _, Row10.alloc (Row10.new w _ _ _ _ _ _ _ _ _ _) _, by
    have := Row10.new (w.alloc (.cells #[.int .i64 kd, .bool g, .int .u64 (lb 0 x), .int .u64 (lb 1 x), .int .u64 (lb 2 x), .int .u64 (lb 3 x), .int .u64 b, .string s, l, k] 31)) (.int .i64 0) (.bool false) (.int .u64 0) (.int .u64 0) (.int .u64 0) (.int .u64 0) (.int .u64 0) (.string ⟨#[]⟩) (.slice none 0 0) (.slice none 0 0)
    rwa [size_alloc] at this⟩
section
variable {w wx wy : World} {kd : Int} {g : Bool} {x : Nat} {b : Int} {s : ByteArray} {l k : Value}
theorem Own2.keep (h : Own2 w wx kd g x b s l k) (hb : Below wx.heap.size wx wy) : Own2 w wy kd g x b s l k := ⟨btr h.below hb, h.row.keep hb, h.zero.keep hb⟩
theorem Own2.text (h : Own2 w wx kd g x b s l k) (s' : ByteArray) : Own2 w (wx.setCell ⟨w.heap.size, 7, none⟩ (.string s')) kd g x b s' l k :=
  ⟨bsc h.below (Nat.le_refl _) _, by have := heap_setCell_same wx w.heap.size 7 _ _ (.string s') h.row; simpa [Row10] using this, h.zero.set (by omega) _⟩
theorem Own2.list (h : Own2 w wx kd g x b s l k) (u : Value) : Own2 w (wx.setCell ⟨w.heap.size, 8, none⟩ u) kd g x b s u k :=
  ⟨bsc h.below (Nat.le_refl _) _, by have := heap_setCell_same wx w.heap.size 8 _ _ u h.row; simpa [Row10] using this, h.zero.set (by omega) _⟩
theorem Own2.keys (h : Own2 w wx kd g x b s l k) (u : Value) : Own2 w (wx.setCell ⟨w.heap.size, 9, none⟩ u) kd g x b s l u :=
  ⟨bsc h.below (Nat.le_refl _) _, by have := heap_setCell_same wx w.heap.size 9 _ _ u h.row; simpa [Row10] using this, h.zero.set (by omega) _⟩
theorem Own2.other (h : Own2 w wx kd g x b s l k) {c i : Nat} (hc : w.heap.size + 2 ≤ c) (u : Value) : Own2 w (wx.setCell ⟨c, i, none⟩ u) kd g x b s l k :=
  ⟨bsc h.below (by show w.heap.size ≤ c; omega) _, h.row.set (by omega) _, h.zero.set (by omega) _⟩
theorem Own2.alloc (h : Own2 w wx kd g x b s l k) (o : Obj) : Own2 w (wx.alloc o) kd g x b s l k := ⟨bal h.below o, h.row.alloc o, h.zero.alloc o⟩
theorem Own2.size (h : Own2 w wx kd g x b s l k) : w.heap.size + 2 ≤ wx.heap.size := by have := h.zero.lt; omega
end

/-- A copy, its ten parts written out. -/
def CloneV (W : World) (T : VT) (E : Ending) (w' : World) : Prop :=
  ∃ (kd : Int) (g : Bool) (x : Nat) (b : Int) (s : ByteArray) (la : Option Addr) (lc : Nat) (ka : Option Addr) (kc : Nat) (ks : List ByteArray) (l : List VT),
    E = .returned (V10 kd g (lb 0 x) (lb 1 x) (lb 2 x) (lb 3 x) b s la l.length lc ka ks.length kc) ∧ (VT.mk ⟨kd, g, x, b, s, la, lc, ka, kc, ks⟩ l).From W.heap.size w' ∧ sameT (.mk ⟨kd, g, x, b, s, la, lc, ka, kc, ks⟩ l) T = true ∧ Below W.heap.size W w'
theorem CloneT.v {W : World} {T : VT} {E : Ending} {w' : World} (h : CloneT W T E w') : CloneV W T E w' := by
  obtain ⟨⟨⟨kd, g, x, b, s, la, lc, ka, kc, ks⟩, l⟩, h1, h2, h3, h4⟩ := h
  exact ⟨kd, g, x, b, s, la, lc, ka, kc, ks, l, h1, h2, h3, h4⟩
/-- Ten stores. -/
abbrev put10 (W : World) (c p : Nat) (v0 v1 v2 v3 v4 v5 v6 v7 v8 v9 : Value) : World :=
  (((((((((W.setCell ⟨c, p, none⟩ v0).setCell ⟨c, p + 1, none⟩ v1).setCell ⟨c, p + 2, none⟩ v2).setCell ⟨c, p + 3, none⟩ v3).setCell ⟨c, p + 4, none⟩ v4).setCell ⟨c, p + 5, none⟩ v5).setCell ⟨c, p + 6, none⟩ v6).setCell ⟨c, p + 7, none⟩ v7).setCell ⟨c, p + 8, none⟩ v8).setCell ⟨c, p + 9, none⟩ v9
section
variable {w wx wr w3 : World} {kd : Int} {g : Bool} {x : Nat} {b : Int} {s : ByteArray} {l k : Value} {v0 v1 v2 v3 v4 v5 v6 v7 v8 v9 : Value} {c p gl lo : Nat}
theorem Own2.put10 (h : Own2 w wx kd g x b s l k) (hc : w.heap.size + 2 ≤ c) : Own2 w (put10 wx c p v0 v1 v2 v3 v4 v5 v6 v7 v8 v9) kd g x b s l k :=
  (((((((((h.other hc _).other hc _).other hc _).other hc _).other hc _).other hc _).other hc _).other hc _).other hc _).other hc _
theorem Cur.put10 {e : TypeId} {xs : List Value} {q : Nat} (h : Cur wx q e xs) (hc : q ≠ c) : Cur (put10 wx c p v0 v1 v2 v3 v4 v5 v6 v7 v8 v9) q e xs :=
  (((((((((h.other hc _).other hc _).other hc _).other hc _).other hc _).other hc _).other hc _).other hc _).other hc _).other hc _
theorem kept_put10 (hc : c < lo) : Kept lo wx (put10 wx c p v0 v1 v2 v3 v4 v5 v6 v7 v8 v9) :=
  ((((((((((kept_set hc _).trans (by simp) (kept_set hc _)).trans (by simp) (kept_set hc _)).trans (by simp) (kept_set hc _)).trans (by simp) (kept_set hc _)).trans (by simp) (kept_set hc _)).trans (by simp) (kept_set hc _)).trans (by simp) (kept_set hc _)).trans (by simp) (kept_set hc _)).trans (by simp) (kept_set hc _))
theorem put10_cell {q j : Nat} {v : Value} (h : wx.cell? ⟨q, j, none⟩ = some v) (hc : q ≠ c) : (put10 wx c p v0 v1 v2 v3 v4 v5 v6 v7 v8 v9).cell? ⟨q, j, none⟩ = some v :=
  cell_set_other (cell_set_other (cell_set_other (cell_set_other (cell_set_other (cell_set_other (cell_set_other (cell_set_other (cell_set_other (cell_set_other h hc _) hc _) hc _) hc _) hc _) hc _) hc _) hc _) hc _) hc _
/-- So far in the list: copies, and what is not copied yet. -/
def LoopL (gl : Nat) (wr : World) (kids : List VT) (la : Option Addr) (k : Nat) : Prop :=
  ∃ Cs : List VT, Cs.length = k ∧ (∀ (j : Nat) (c t : VT), Cs[j]? = some c → kids[j]? = some t → c.From (gl + 1) wr ∧ sameT c t = true) ∧ (0 < kids.length → la = some ⟨gl, 0, none⟩ ∧ Cur wr gl 31 (newsV (Cs ++ kids.drop k)))
theorem LoopL.start {kids : List VT} {la : Option Addr} (h : 0 < kids.length → la = some ⟨gl, 0, none⟩ ∧ Cur wr gl 31 (newsV kids)) : LoopL gl wr kids la 0 :=
  ⟨[], rfl, fun j c t h => by simp at h, fun h0 => by simpa using h h0⟩
theorem drop_at {α : Type} {l : List α} {k : Nat} {t : α} (h : l[k]? = some t) : l.drop k = t :: l.drop (k + 1) := by
  obtain ⟨hl, rfl⟩ := List.getElem?_eq_some_iff.1 h
  exact List.drop_eq_getElem_cons hl
theorem LoopL.cells {kids : List VT} {la : Option Addr} {k : Nat} {t : VT} (h : LoopL gl wr kids la k) (ht : kids[k]? = some t) : la = some ⟨gl, 0, none⟩ ∧ Cells10 wr gl (k * 10) t ∧ (∀ j, wr.frozen? ⟨gl, j, none⟩ = false) ∧ gl < wr.heap.size := by
  obtain ⟨Cs, h1, h2, h3⟩ := h
  obtain ⟨h4, h5⟩ := h3 (by have := (List.getElem?_eq_some_iff.1 ht).1; omega)
  refine ⟨h4, fun j u hu => h5.cell (newsV_cell (t := t) ?_ hu), fun j => h5.free j, h5.lt⟩
  rw [List.getElem?_append_right (by omega), drop_at ht, h1, Nat.sub_self]; rfl
theorem LoopL.next {kids : List VT} {la : Option Addr} {k : Nat} {t : VT} {x' : Nat} {g' : Bool} {kd' b' : Int} {s' : ByteArray} {la' : Option Addr} {lc' : Nat} {ka' : Option Addr} {kc' : Nat} {ks' : List ByteArray} {l' : List VT}
    (h : LoopL gl wr kids la k) (ht : kids[k]? = some t) (hb : Below wr.heap.size wr w3) (hlo : gl + 1 ≤ lo) (hF : (VT.mk ⟨kd', g', x', b', s', la', lc', ka', kc', ks'⟩ l').From lo w3) (hS : sameT (VT.mk ⟨kd', g', x', b', s', la', lc', ka', kc', ks'⟩ l') t = true) :
    LoopL gl (put10 w3 gl (k * 10) (.int .i64 kd') (.bool g') (.int .u64 (lb 0 x')) (.int .u64 (lb 1 x')) (.int .u64 (lb 2 x')) (.int .u64 (lb 3 x')) (.int .u64 b') (.string s') (.slice la' l'.length lc') (.slice ka' ks'.length kc')) kids la (k + 1) := by
  obtain ⟨Cs, h1, h2, h3⟩ := h
  refine ⟨Cs ++ [VT.mk ⟨kd', g', x', b', s', la', lc', ka', kc', ks'⟩ l'], by simp [h1], fun j c u hc hu => ?_, fun h0 => ?_⟩
  · rcases Nat.lt_trichotomy j Cs.length with hj | hj | hj
    · rw [List.getElem?_append_left hj] at hc
      obtain ⟨a1, a2⟩ := h2 j c u hc hu
      exact ⟨(a1.kept (kept_below hb)).kept (kept_put10 (by omega)), a2⟩
    · subst hj
      rw [List.getElem?_append_right (Nat.le_refl _), Nat.sub_self] at hc
      cases hc
      rw [h1, ht] at hu
      cases hu
      exact ⟨(hF.mono hlo).kept (kept_put10 (by omega)), hS⟩
    · rw [List.getElem?_append_right (by omega), List.getElem?_eq_none (by simp; omega)] at hc
      cases hc
  · obtain ⟨a1, a2⟩ := h3 h0
    refine ⟨a1, ?_⟩
    rw [drop_at ht] at a2
    have a3 := (((((((((((a2.keep hb).set (k * 10) (.int .i64 kd')).set (k * 10 + 1) (.bool g')).set (k * 10 + 2) (.int .u64 (lb 0 x'))).set (k * 10 + 3) (.int .u64 (lb 1 x'))).set (k * 10 + 4) (.int .u64 (lb 2 x'))).set (k * 10 + 5) (.int .u64 (lb 3 x'))).set (k * 10 + 6) (.int .u64 b')).set (k * 10 + 7) (.string s')).set (k * 10 + 8) (.slice la' l'.length lc')).set (k * 10 + 9) (.slice ka' ks'.length kc'))
    rw [set_ten h1] at a3
    rw [List.append_assoc]
    exact a3
end

theorem eqO_self (k : Int) (g : Bool) (a0 a1 a2 a3 b : Int) (s : ByteArray) (m n : Int) : eqO k g a0 a1 a2 a3 b s m n k g a0 a1 a2 a3 b s m n = true := by
  simp [eqO, eq5, eq4]
theorem keysEq_self (a : List ByteArray) : keysEq a a = true := by
  unfold keysEq
  rw [decide_eq_true rfl, Bool.true_and, List.all_eq_true]
  have hz : ∀ (b : List ByteArray) (q : ByteArray × ByteArray), q ∈ b.zip b → q.1 = q.2 := by
    intro b
    induction b with
    | nil => intro q h; simp at h
    | cons c b ihb =>
      intro q h
      rw [List.zip_cons_cons] at h
      rcases List.mem_cons.1 h with rfl | h
      · rfl
      · exact ihb q h
  intro p hp
  rw [hz a p hp]
  simp
theorem kidsEq_of {a b : List VT} (hl : a.length = b.length) (h : ∀ (j : Nat) (c t : VT), a[j]? = some c → b[j]? = some t → sameT c t = true) : kidsEq (a.map fun k => sameT k) b = true := by
  unfold kidsEq
  rw [List.length_map, decide_eq_true hl, Bool.true_and, List.zip_map_left, List.all_eq_true]
  intro p hp
  obtain ⟨q, hq, rfl⟩ := List.mem_map.1 hp
  obtain ⟨i, hi⟩ := List.getElem?_of_mem hq
  rw [List.getElem?_zip_eq_some] at hi
  exact h i q.1 q.2 hi.1 hi.2
theorem clone_end {w wr : World} {kd : Int} {g : Bool} {x : Nat} {b : Int} {s : ByteArray} {la : Option Addr} {lc : Nat} {ka : Option Addr} {kc : Nat} {keys : List ByteArray} {kids : List VT} {la' : Option Addr} {lc' : Nat} {ka' : Option Addr} {kc' : Nat} {gk gl : Nat} {l k : Value}
    (wf : Own.WF ⟨kd, g, x, b, s, la, lc, ka, kc, keys⟩ kids.length) (hkc : keys.length ≤ kc' ∧ kc' ≤ maxLen) (hlc : kids.length ≤ lc' ∧ lc' ≤ maxLen) (hgk : w.heap.size + 2 ≤ gk) (hgl : w.heap.size + 2 ≤ gl)
    (hO : Own2 w wr kd g x b s l k) (hK : 0 < keys.length → ka' = some ⟨gk, 0, none⟩ ∧ Cur wr gk 9 (keys.map Value.string) ∧ gk < gl) (hL : LoopL gl wr kids la' kids.length) :
    CloneT w (.mk ⟨kd, g, x, b, s, la, lc, ka, kc, keys⟩ kids) (.returned (V10 kd g (lb 0 x) (lb 1 x) (lb 2 x) (lb 3 x) b s la' kids.length lc' ka' keys.length kc'))
      (put10 wr (w.heap.size + 1) 0 (.int .i64 kd) (.bool g) (.int .u64 (lb 0 x)) (.int .u64 (lb 1 x)) (.int .u64 (lb 2 x)) (.int .u64 (lb 3 x)) (.int .u64 b) (.string s) (.slice la' kids.length lc') (.slice ka' keys.length kc')) := by
  obtain ⟨Cs, h1, h2, h3⟩ := hL
  obtain ⟨w1, w2, w3, w4, w5, w6, w7⟩ := wf
  have hkp : ∀ {lo : Nat}, w.heap.size + 2 ≤ lo → Kept lo wr (put10 wr (w.heap.size + 1) 0 (.int .i64 kd) (.bool g) (.int .u64 (lb 0 x)) (.int .u64 (lb 1 x)) (.int .u64 (lb 2 x)) (.int .u64 (lb 3 x)) (.int .u64 b) (.string s) (.slice la' kids.length lc') (.slice ka' keys.length kc')) := fun h => kept_put10 (by omega)
  refine ⟨.mk ⟨kd, g, x, b, s, la', lc', ka', kc', keys⟩ Cs, ?_, ?_, ?_, ?_⟩
  · show _ = Ending.returned (V10 kd g (lb 0 x) (lb 1 x) (lb 2 x) (lb 3 x) b s la' Cs.length lc' ka' keys.length kc')
    rw [h1]
  · refine .mk _ _ ⟨w1, w2, w3, w4, by rw [h1]; exact hlc, hkc, w7⟩ ⟨gk, 0, by omega, fun h => (hK h).1, fun i t ht => ?_⟩ ⟨gl, 0, by omega, fun h => (h3 (by omega)).1, fun i t ht => ?_⟩ (fun i t ht => ?_)
    · have h0 : 0 < keys.length := by have := (List.getElem?_eq_some_iff.1 ht).1; simp only at this; omega
      refine kept_cell (hkp (Nat.le_refl _)) hgk ?_
      rw [Nat.zero_add]
      refine (hK h0).2.1.cell ?_
      rw [List.getElem?_map]
      simp only at ht
      rw [ht]; rfl
    · have hi := (List.getElem?_eq_some_iff.1 ht).1
      have hc := (h3 (by omega)).2
      rw [List.drop_of_length_le (Nat.le_refl _), List.append_nil] at hc
      intro j u hu
      refine kept_cell (hkp (Nat.le_refl _)) hgl ?_
      have := hc.cell (newsV_cell ht hu)
      rwa [show 0 + i * 10 + j = i * 10 + j by omega]
    · have hi := (List.getElem?_eq_some_iff.1 ht).1
      obtain ⟨t', ht', _⟩ := kid_at (kids := kids) (k := i) (by omega)
      exact ((h2 i t t' ht ht').1.kept (hkp (by omega))).mono (by omega)
  · rw [sameT]
    simp only [VT.o_mk, VT.kids_mk]
    rw [h1, eqO_self, keysEq_self, kidsEq_of h1 (fun j c t hc ht => (h2 j c t hc ht).2)]
    rfl
  · exact vbsc10 hO.below (by omega) _ _ _ _ _ _ _ _ _ _

set_option maxRecDepth 100000 in
set_option maxHeartbeats 4000000 in
theorem vclone_core (kd : Int) (g : Bool) (x : Nat) (b : Int) (s : ByteArray) (la : Option Addr) (lc : Nat) (ka : Option Addr) (kc : Nat) (keys : List ByteArray) (kids : List VT) (kb koff bb off : Nat) (w : World)
    (wf : Own.WF ⟨kd, g, x, b, s, la, lc, ka, kc, keys⟩ kids.length) (hs : s.size ≤ 300) (hk4 : keys.length ≤ 400) (hks : ∀ k ∈ keys, k.size ≤ 300) (hl4 : kids.length ≤ 400)
    (hKK : KeysL w ka keys kb koff) (hK : Kids w la kids bb off)
    (ih : ∀ t ∈ kids, ∀ W, t.In W → Calls Tryd.prog 22 #[t.val] W (CloneV W t)) :
    Calls Tryd.prog 22 #[V10 kd g (lb 0 x) (lb 1 x) (lb 2 x) (lb 3 x) b s la kids.length lc ka keys.length kc] w (CloneT w (.mk ⟨kd, g, x, b, s, la, lc, ka, kc, keys⟩ kids)) := by
  have WF := Lib.hid wf; have HKS := Lib.hid hks; have HKK := Lib.hid hKK; have HK := Lib.hid hK; have HI := Lib.hid ih
  clear wf hks hKK hK ih
  go_enter Tryd.func22, Tryd.ntmps22
  go_wp2_with fail
  ((with_reducible refine (clone_any s (by omega) _).mono ?_); rintro e w1 ⟨rfl, hb⟩)
  have O1 := Lib.hid (Own2.keep (Own2.start w kd g x b s (.slice la kids.length lc) (.slice ka keys.length kc)) hb)
  clear hb
  obtain ⟨p0, p1, p2, p3, p4, p5, p6, p7, p8, p9⟩ := O1.out.row.parts
  have f7 := O1.out.row.free 7
  clear p0 p1 p2 p3 p4 p5 p6 p8
  go_wp2_with fail
  have hsz := O1.out.size
  have hsz2 : w.heap.size + 2 ≤ (w1.setCell ⟨w.heap.size, 7, none⟩ (.string s)).heap.size := (O1.out.text s).size
  ((with_reducible refine (kclone ka kc keys kb koff _ (HKK.out.keep (O1.out.text s).below) (by omega)).mono ?_); rintro e w2 ⟨ka', kc', gk, rfl, hgk, hcur, hc1, hc2, hb⟩)
  have hgk2 : w.heap.size + 2 ≤ gk := by omega
  have O2 := Lib.hid ((O1.out.text s).keep hb)
  have CU := Lib.hid hcur
  have HC := Lib.hid (And.intro hc1 hc2)
  clear hb hgk hsz hsz2 O1 p7 p9 f7 hcur hc1 hc2
  obtain ⟨p0, p1, p2, p3, p4, p5, p6, p7, p8, p9⟩ := O2.out.row.parts
  have f9 := O2.out.row.free 9
  clear p0 p1 p2 p3 p4 p5 p6 p7 p8
  have hkn : keys.length ≤ 9223372036854775807 := by omega
  go_wp2
  go_loopw [3, 4, 18] (fun _ _ i wr => ∃ k : Nat, k ≤ keys.length ∧ i = .int .i64 k ∧ Hid (Own2 w wr kd g x b s (.slice la kids.length lc) (.slice ka' keys.length kc')) ∧ Hid (0 < keys.length → ka' = some ⟨gk, 0, none⟩ ∧ Cur wr gk 9 (keys.map Value.string))) (fun _ _ i _ => keys.length - (intOf i).toNat)
  case atStart => exact ⟨0, Nat.zero_le _, rfl, (show Hid _ from O2.out.keys _), (show Hid _ from fun h => ⟨(CU.out h).1, (CU.out h).2.other (by omega) _⟩)⟩
  case round =>
    obtain ⟨k, hk, rfl, OW, CW⟩ := hrel
    obtain ⟨p0, p1, p2, p3, p4, p5, p6, p7, p8, p9⟩ := OW.out.row.parts
    clear p0 p1 p2 p3 p4 p5 p6 p7
    by_cases hlt : k < keys.length
    · obtain ⟨t, ht, hm⟩ := key_at hlt
      obtain ⟨rfl, hcu⟩ := CW.out (by omega)
      have hck : (keys.map Value.string)[k]? = some (.string t) := by rw [List.getElem?_map, ht]; rfl
      have hc := hcu.cell hck
      have hf := hcu.free k
      have hts := HKS.out t hm
      go_wp2
      go_region_held3 (fun w' => w'.cell? ⟨w.heap.size, 9, none⟩ = some (.slice (some ⟨gk, 0, none⟩) keys.length kc'))
        (first | assumption | (refine cell_set_other ?_ ?_ _; assumption; omega))
        (first | (go_at_call 44; ((with_reducible refine (clone_any t (by omega) _).mono ?_); rintro e w3 ⟨rfl, hb3⟩; have O3 := Lib.hid (Own2.keep OW.out (Below.trans (Below.drew (Below.refl _ _)) hb3)); have p9' := O3.out.row.parts.2.2.2.2.2.2.2.2.2; have C3 := Cur.keep hcu (Below.trans (Below.drew (Below.refl _ _)) hb3); have hc3 := Cur.cell C3 hck; have hf3 := Cur.free C3 k)))
      have O4 := Lib.hid (Own2.other O3.out (i := k) hgk2 (.string t))
      have C4 := Cur.set C3 k (.string t)
      rw [set_self hck] at C4
      have HC4 := Lib.hid C4
      clear hc3 hf3 C3 C4 O3 p9' hb3 hck hc hf p8 p9 hcu
      go_wp2
      go_roundw
      case rel => exact ⟨k + 1, by omega, by go_num, O4, (show Hid _ from fun _ => ⟨by trivial, HC4.out⟩)⟩
      case measure => simp [intOf]; omega
    · have hge : ¬ (k : Int) < (keys.length : Int) := by omega
      have hsz3 := OW.out.size
      go_wp2_with fail
      ((with_reducible refine (lclone la lc kids bb off _ (HK.out.keep OW.out.below) (by omega)).mono ?_); rintro e w4 ⟨la', lc', gl, rfl, hgl, hcur, hc1, hc2, hb⟩)
      have O5 := Lib.hid (OW.out.keep hb)
      have CK := Lib.hid (fun h => And.intro (CW.out h).1 (And.intro ((CW.out h).2.keep hb) (show gk < gl by have := (CW.out h).2.lt; omega)))
      have CL := Lib.hid hcur
      have HCL := Lib.hid (And.intro hc1 hc2)
      have hgl2 : w.heap.size + 2 ≤ gl := by omega
      clear hb hcur hc1 hc2 hgl hsz3 p8 p9 OW CW
      obtain ⟨p0, p1, p2, p3, p4, p5, p6, p7, p8, p9⟩ := O5.out.row.parts
      have f8 := O5.out.row.free 8
      have hln : kids.length ≤ 9223372036854775807 := by omega
      go_wp2
      go_loopw [5, 6, 37] (fun _ _ i wr => ∃ k : Nat, k ≤ kids.length ∧ i = .int .i64 k ∧ Hid (Own2 w wr kd g x b s (.slice la' kids.length lc') (.slice ka' keys.length kc')) ∧ Hid (0 < keys.length → ka' = some ⟨gk, 0, none⟩ ∧ Cur wr gk 9 (keys.map Value.string) ∧ gk < gl) ∧ Hid (LoopL gl wr kids la' k)) (fun _ _ i _ => kids.length - (intOf i).toNat)
      case atStart => exact ⟨0, Nat.zero_le _, rfl, (show Hid _ from O5.out.list _), (show Hid _ from fun h => ⟨(CK.out h).1, (CK.out h).2.1.other (by omega) _, (CK.out h).2.2⟩), (show Hid _ from LoopL.start fun h => ⟨(CL.out h).1, (CL.out h).2.other (by omega) _⟩)⟩
      case round =>
        obtain ⟨k, hk, rfl, OW, CW, LW⟩ := hrel
        obtain ⟨p0, p1, p2, p3, p4, p5, p6, p7, p8, p9⟩ := OW.out.row.parts
        clear p0 p1 p2 p3 p4 p5 p6 p7
        by_cases hlt : k < kids.length
        · obtain ⟨t, ht, hm⟩ := kid_at hlt
          obtain ⟨hla, hc10, hfr, hglt⟩ := LW.out.cells ht
          subst hla
          have hti := HK.out.ins k t ht
          have hcall := HI.out t hm
          have HHT := Lib.hid ht
          have HLW := Lib.hid LW.out
          clear LW ht
          obtain ⟨o2, l2⟩ := t
          obtain ⟨kd2, g2, x2, b2, s2, la2, lc2, ka2, kc2, ks2⟩ := o2
          simp only [VT.val, VT.cells, VT.o_mk, VT.kids_mk] at hcall
          obtain ⟨c0, c1, c2, c3, c4, c5, c6, c7, c8, c9⟩ := hc10.ten
          have HC10 := Lib.hid hc10
          clear hc10
          have HTI := Lib.hid hti; have HCALL := Lib.hid hcall
          clear hti hcall
          go_wp2
          have E0 := Row10.new wr (.int .i64 kd2) (.bool g2) (.int .u64 (lb 0 x2)) (.int .u64 (lb 1 x2)) (.int .u64 (lb 2 x2)) (.int .u64 (lb 3 x2)) (.int .u64 b2) (.string s2) (.slice la2 l2.length lc2) (.slice ka2 ks2.length kc2)
          have OE0 := Lib.hid (OW.out.alloc (.cells #[.int .i64 kd2, .bool g2, .int .u64 (lb 0 x2), .int .u64 (lb 1 x2), .int .u64 (lb 2 x2), .int .u64 (lb 3 x2), .int .u64 b2, .string s2, .slice la2 l2.length lc2, .slice ka2 ks2.length kc2] 31))
          have BE0 := Lib.hid (bal (Below.refl _ wr) (.cells #[.int .i64 kd2, .bool g2, .int .u64 (lb 0 x2), .int .u64 (lb 1 x2), .int .u64 (lb 2 x2), .int .u64 (lb 3 x2), .int .u64 b2, .string s2, .slice la2 l2.length lc2, .slice ka2 ks2.length kc2] 31))
          go_name_world we hwe
          rw [hwe] at E0 OE0 BE0
          clear hwe c0 c1 c2 c3 c4 c5 c6 c7 c8 c9 p8 p9
          obtain ⟨z0, z1, z2, z3, z4, z5, z6, z7, z8, z9⟩ := E0.parts
          have p8 := OE0.out.row.parts.2.2.2.2.2.2.2.2.1
          have hg1 : w.heap.size ≠ gl := by omega
          have hg2 : wr.heap.size ≠ gl := by omega
          have hge2 : gl + 1 ≤ we.heap.size := by have := BE0.out.size; omega
          have ZD : we.drew.cell? ⟨w.heap.size, 8, none⟩ = some (.slice (some ⟨gl, 0, none⟩) kids.length lc') ∧ we.drew.cell? ⟨wr.heap.size, 0, none⟩ = some (.int .i64 kd2) ∧ we.drew.cell? ⟨wr.heap.size, 1, none⟩ = some (.bool g2) ∧ we.drew.cell? ⟨wr.heap.size, 2, none⟩ = some (.int .u64 (lb 0 x2)) ∧ we.drew.cell? ⟨wr.heap.size, 3, none⟩ = some (.int .u64 (lb 1 x2)) ∧ we.drew.cell? ⟨wr.heap.size, 4, none⟩ = some (.int .u64 (lb 2 x2)) ∧ we.drew.cell? ⟨wr.heap.size, 5, none⟩ = some (.int .u64 (lb 3 x2)) ∧ we.drew.cell? ⟨wr.heap.size, 6, none⟩ = some (.int .u64 b2) ∧ we.drew.cell? ⟨wr.heap.size, 7, none⟩ = some (.string s2) ∧ we.drew.cell? ⟨wr.heap.size, 8, none⟩ = some (.slice la2 l2.length lc2) ∧ we.drew.cell? ⟨wr.heap.size, 9, none⟩ = some (.slice ka2 ks2.length kc2) := ⟨p8, z0, z1, z2, z3, z4, z5, z6, z7, z8, z9⟩
          go_region_held3 (fun w' => w'.cell? ⟨w.heap.size, 8, none⟩ = some (.slice (some ⟨gl, 0, none⟩) kids.length lc') ∧ w'.cell? ⟨wr.heap.size, 0, none⟩ = some (.int .i64 kd2) ∧ w'.cell? ⟨wr.heap.size, 1, none⟩ = some (.bool g2) ∧ w'.cell? ⟨wr.heap.size, 2, none⟩ = some (.int .u64 (lb 0 x2)) ∧ w'.cell? ⟨wr.heap.size, 3, none⟩ = some (.int .u64 (lb 1 x2)) ∧ w'.cell? ⟨wr.heap.size, 4, none⟩ = some (.int .u64 (lb 2 x2)) ∧ w'.cell? ⟨wr.heap.size, 5, none⟩ = some (.int .u64 (lb 3 x2)) ∧ w'.cell? ⟨wr.heap.size, 6, none⟩ = some (.int .u64 b2) ∧ w'.cell? ⟨wr.heap.size, 7, none⟩ = some (.string s2) ∧ w'.cell? ⟨wr.heap.size, 8, none⟩ = some (.slice la2 l2.length lc2) ∧ w'.cell? ⟨wr.heap.size, 9, none⟩ = some (.slice ka2 ks2.length kc2))
            (first | (with_reducible exact ZD) | (with_reducible exact ⟨p8, z0, z1, z2, z3, z4, z5, z6, z7, z8, z9⟩) | (with_reducible exact ⟨q8, y0, y1, y2, y3, y4, y5, y6, y7, y8, y9⟩) | (with_reducible exact ⟨put10_cell q8 hg1, put10_cell y0 hg2, put10_cell y1 hg2, put10_cell y2 hg2, put10_cell y3 hg2, put10_cell y4 hg2, put10_cell y5 hg2, put10_cell y6 hg2, put10_cell y7 hg2, put10_cell y8 hg2, put10_cell y9 hg2⟩) | fail)
            (first | (go_at_call 22; ((with_reducible refine (HCALL.out _ (HTI.out.keep (Below.trans OE0.out.below (Below.drew (Below.refl _ _))))).mono ?_); rintro e w3 ⟨kd3, g3, x3, b3, s3, la3, lc3, ka3, kc3, ks3, l3, rfl, hF, hS, hb3⟩; have O3 := Lib.hid (Own2.keep OE0.out (Below.trans (Below.drew (Below.refl _ _)) hb3)); have q8 := O3.out.row.parts.2.2.2.2.2.2.2.2.1; have E3 := Row10.keep (Below.trans (Below.drew (Below.refl _ _)) hb3) E0; obtain ⟨y0, y1, y2, y3, y4, y5, y6, y7, y8, y9⟩ := E3.parts; have hb03 := btr BE0.out (Below.trans (Below.drew (Below.refl _ _)) hb3); obtain ⟨d0, d1, d2, d3, d4, d5, d6, d7, d8, d9⟩ := (HC10.out.keep hb03).ten; have hf3 := fun j => (World.frozen?_of_block (a := ⟨gl, j, none⟩) (hb03.block gl hglt)).trans (hfr j))))
          have O4 := Lib.hid (Own2.put10 O3.out (p := k * 10) (v0 := .int .i64 kd3) (v1 := .bool g3) (v2 := .int .u64 (lb 0 x3)) (v3 := .int .u64 (lb 1 x3)) (v4 := .int .u64 (lb 2 x3)) (v5 := .int .u64 (lb 3 x3)) (v6 := .int .u64 b3) (v7 := .string s3) (v8 := .slice la3 l3.length lc3) (v9 := .slice ka3 ks3.length kc3) hgl2)
          have HB03 := Lib.hid hb03
          have L4 := Lib.hid (LoopL.next HLW.out HHT.out hb03 hge2 hF hS)
          clear hb3 hF hS E3 y0 y1 y2 y3 y4 y5 y6 y7 y8 y9 d0 d1 d2 d3 d4 d5 d6 d7 d8 d9 hf3 hb03 q8 O3 E0 z0 z1 z2 z3 z4 z5 z6 z7 z8 z9 p8 f8 ZD
          go_wp2
          go_roundw
          case rel => exact ⟨k + 1, by omega, by go_num, O4, (show Hid _ from fun h => ⟨(CW.out h).1, Cur.put10 ((CW.out h).2.1.keep HB03.out) (by have := (CW.out h).2.2; omega), (CW.out h).2.2⟩), (show Hid _ from L4.out)⟩
          case measure => simp [intOf]; omega
        · have hge : ¬ (k : Int) < (kids.length : Int) := by omega
          have hkk : k = kids.length := by omega
          obtain ⟨p0, p1, p2, p3, p4, p5, p6, p7, p8, p9⟩ := OW.out.row.parts
          obtain ⟨z0, z1, z2, z3, z4, z5, z6, z7, z8, z9⟩ := OW.out.zero.parts
          have zf := OW.out.zero.free
          have hzl := OW.out.zero.lt
          have HKE := Lib.hid hkk
          clear hkk
          go_wp2
          have RN := (OW.out.zero.set10 (.int .i64 kd) (.bool g) (.int .u64 (lb 0 x)) (.int .u64 (lb 1 x)) (.int .u64 (lb 2 x)) (.int .u64 (lb 3 x)) (.int .u64 b) (.string s) (.slice la' kids.length lc') (.slice ka' keys.length kc')).parts
          obtain ⟨q0, q1, q2, q3, q4, q5, q6, q7, q8, q9⟩ := RN
          have EN := clone_end (kd := kd) (g := g) (x := x) (b := b) (s := s) (la := la) (lc := lc) (ka := ka) (kc := kc) WF.out HC.out HCL.out hgk2 hgl2 OW.out CW.out (by have := LW.out; rwa [HKE.out] at this)
          exact bodyPost_ret (v := V10 kd g (lb 0 x) (lb 1 x) (lb 2 x) (lb 3 x) b s la' kids.length lc' ka' keys.length kc') (by simp [results, Tryd.results22, go_sem, q0, q1, q2, q3, q4, q5, q6, q7, q8, q9]) rfl EN
/-- value.clone, of a value whose parts are few. -/
theorem vclone : ∀ (T : VT), T.Every TinyO → T.nodes ≤ 400 → ∀ w, T.In w → Calls Tryd.prog 22 #[T.val] w (CloneT w T) := by
  intro T
  induction T using VT.ind with
  | h o kids ih =>
    intro hE hn w hI
    obtain ⟨kb, koff, hKK⟩ := hI.keys'
    obtain ⟨bb, off, hK⟩ := hI.kids'
    have wf := hI.wf
    have hl := VT.length_nodes o kids
    have hnk := fun t (h : t ∈ kids) => VT.nodes_kid (o := o) h
    have ih' : ∀ t ∈ kids, ∀ W, t.In W → Calls Tryd.prog 22 #[t.val] W (CloneV W t) := fun t ht W hW => (ih t ht (hE.mem ht) (by have := hnk t ht; omega) W hW).mono fun _ _ h => h.v
    obtain ⟨kd, g, x, b, s, la, lc, ka, kc, keys⟩ := o
    obtain ⟨t1, t2, t3⟩ := hE.own
    exact vclone_core kd g x b s la lc ka kc keys kids kb koff bb off w wf t1 t2 t3 (by omega) hKK hK ih'
end Go.Proofs.YtjdogiehcgfmjaaDoor
