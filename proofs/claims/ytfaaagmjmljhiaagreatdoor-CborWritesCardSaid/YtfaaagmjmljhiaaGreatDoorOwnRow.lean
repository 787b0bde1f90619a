/-
  Rows of one's own that grow by append, and blocks of ten cells that are stored into: facts on memory. No walk.
-/
import Derived.Test.YtfaaagmjmljhiaaGreatDoorValOpen
import Derived.Test.YtfaaagmjmljhiaaGreatDoorValOver
import Derived.Deep.OwnRows
import Derived.Lib.QuietBelow
import Derived.BigQuiet
import Derived.Deep.AppendLies
namespace Go.Proofs.YtfaaagmjmljhiaaGreatDoor
open Go.RowKit Go.Shelf
open Go.Sort (grow)

theorem info_str : (Tryz.prog.info? 9).map (fun i => (i.zero, i.size, i.bytes)) = some (some (.string ⟨#[]⟩), 1, 16) := by kernel_rfl
theorem und_strs : Tryz.prog.underlying 31 = some (.slice 9) := by kernel_rfl
theorem info_at {t : TypeId} {z : Value} {n b : Nat} (h : (Tryz.prog.info? t).map (fun i => (i.zero, i.size, i.bytes)) = some (some z, n, b)) : ∃ i, Tryz.prog.info? t = some i ∧ i.zero = some z ∧ i.size = n ∧ i.bytes = b := by
  cases hi : Tryz.prog.info? t with
  | none => rw [hi] at h; cases h
  | some i => rw [hi] at h; simp at h; exact ⟨i, rfl, h.1, h.2.1, h.2.2⟩
theorem own_empty6 (W : World) (e : TypeId) (n H : Nat) (h : W.heap.size = H) : (W.alloc (.cells #[] e)).ownsRow H e n (.slice (some ⟨H, 0, none⟩) 0 0) 0 [] := by
  subst h
  exact ⟨by simp, .inr ⟨W.heap.size, 0, #[], rfl, Nat.le_refl _, heap_alloc_new W _, Nat.le_refl _, by decide, by simp, by simp⟩⟩
theorem own_base6 {W : World} {base : Nat} {e : TypeId} {size g n c : Nat} {xs : List Value} (h : W.ownsRow base e size (.slice (some ⟨g, 0, none⟩) n c) n xs) : base ≤ g := (h.lt g rfl).1
theorem own_set6 {W : World} {base : Nat} {e : TypeId} {size g n c : Nat} {xs : List Value} (h : W.ownsRow base e size (.slice (some ⟨g, 0, none⟩) n c) n xs) {b i : Nat} (hne : g ≠ b) (u : Value) : (W.setCell ⟨b, i, none⟩ u).ownsRow base e size (.slice (some ⟨g, 0, none⟩) n c) n xs := by
  obtain ⟨h1, h2⟩ := h
  refine ⟨h1, ?_⟩
  rcases h2 with ⟨h3, _⟩ | ⟨g', cap, cur, h3, h4, h5, h6⟩
  · cases h3
  · cases h3
    exact .inr ⟨g, c, cur, rfl, h4, (Below.heap_setCell W ⟨b, i, none⟩ u g hne).trans h5, h6⟩
theorem own_keep6 {W W' : World} {base : Nat} {e : TypeId} {size g n c : Nat} {xs : List Value} (h : W.ownsRow base e size (.slice (some ⟨g, 0, none⟩) n c) n xs) (hb : Below W.heap.size W W') : W'.ownsRow base e size (.slice (some ⟨g, 0, none⟩) n c) n xs := by
  have hlt := (h.lt g rfl).2
  obtain ⟨h1, h2⟩ := h
  refine ⟨h1, ?_⟩
  rcases h2 with ⟨h3, _⟩ | ⟨g', cap, cur, h3, h4, h5, h6⟩
  · cases h3
  · cases h3
    exact .inr ⟨g, c, cur, rfl, h4, (hb.block g hlt).trans h5, h6⟩
theorem own_mono6 {W : World} {base base' : Nat} {e : TypeId} {size g n c : Nat} {xs : List Value} (h : W.ownsRow base e size (.slice (some ⟨g, 0, none⟩) n c) n xs) (hb : base' ≤ base) : W.ownsRow base' e size (.slice (some ⟨g, 0, none⟩) n c) n xs := by
  obtain ⟨h1, h2⟩ := h
  refine ⟨h1, ?_⟩
  rcases h2 with ⟨h3, _⟩ | ⟨g', cap, cur, h3, h4, h5, h6⟩
  · cases h3
  · cases h3
    exact .inr ⟨g, c, cur, rfl, Nat.le_trans hb h4, h5, h6⟩
theorem Row10.set9 {W : World} {b : Nat} {v0 v1 v2 v3 v4 v5 v6 v7 v8 v9 : Value} (h : Row10 W b v0 v1 v2 v3 v4 v5 v6 v7 v8 v9) (u : Value) : Row10 (W.setCell ⟨b, 9, none⟩ u) b v0 v1 v2 v3 v4 v5 v6 v7 v8 u := by
  have := heap_setCell_same W b 9 _ _ u h
  simpa [Row10] using this
theorem Row10.set8 {W : World} {b : Nat} {v0 v1 v2 v3 v4 v5 v6 v7 v8 v9 : Value} (h : Row10 W b v0 v1 v2 v3 v4 v5 v6 v7 v8 v9) (u : Value) : Row10 (W.setCell ⟨b, 8, none⟩ u) b v0 v1 v2 v3 v4 v5 v6 v7 u v9 := by
  have := heap_setCell_same W b 8 _ _ u h
  simpa [Row10] using this
theorem Row10.grown {W W' : World} {r : Option Nat} {b : Nat} {v0 v1 v2 v3 v4 v5 v6 v7 v8 v9 : Value} (h : Row10 W b v0 v1 v2 v3 v4 v5 v6 v7 v8 v9) (hg : W.grownBy W' r) (hne : some b ≠ r) : Row10 W' b v0 v1 v2 v3 v4 v5 v6 v7 v8 v9 :=
  (hg.block b h.lt hne).trans h
theorem cell_of_str (W : World) (v : Value) (T : TypeId) : ∀ j u, [v][j]? = some u → (W.alloc (.cells #[v] T)).cell? ((⟨W.heap.size, 0, none⟩ : Addr).add j) = some u := by
  intro j u hu
  match j, hu with
  | 0, hu => simp at hu; subst hu; simp [Addr.add]
theorem one_strs (l : List ByteArray) : ∀ u ∈ l.map Value.string, u.oneCell' = true := by
  intro u hu
  obtain ⟨s, _, rfl⟩ := List.mem_map.1 hu
  rfl
theorem keys_news {W : World} {ka : Option Addr} {keys : List ByteArray} {kb koff : Nat} (h : KeysL W ka keys kb koff) : ∀ (j : Nat) (u : Value), (keys.map Value.string)[j]? = some u → W.cell? ((⟨kb, koff, none⟩ : Addr).add j) = some u := by
  intro j u hu
  rw [List.getElem?_map] at hu
  cases hk : keys[j]? with
  | none => rw [hk] at hu; cases hu
  | some s =>
    rw [hk] at hu
    simp at hu
    subst hu
    have := h.cells j s hk
    have e : (⟨kb, koff, none⟩ : Addr).add j = ⟨kb, koff + j, none⟩ := by unfold Addr.add; split <;> simp_all
    rw [e]; exact this


theorem und_vals : Tryz.prog.underlying 22 = some (.slice 33) := by kernel_rfl
theorem info_val : (Tryz.prog.info? 33).map (fun i => (i.zero, i.size, i.bytes)) = some (some (V10 0 false 0 0 0 0 0 ⟨#[]⟩ none 0 0 none 0 0), 10, 120) := by kernel_rfl
def newsV (l : List VT) : List Value := l.flatMap VT.cells
theorem newsV_length (l : List VT) : (newsV l).length = l.length * 10 := by
  unfold newsV
  induction l with
  | nil => rfl
  | cons t l ih => rw [List.flatMap_cons, List.length_append, ih, VT.cells_length, List.length_cons]; omega
theorem newsV_one (l : List VT) : ∀ u ∈ newsV l, u.oneCell' = true := by
  intro u hu
  unfold newsV at hu
  obtain ⟨t, _, h⟩ := List.mem_flatMap.1 hu
  simp only [VT.cells, List.mem_cons, List.not_mem_nil, or_false] at h
  rcases h with rfl | rfl | rfl | rfl | rfl | rfl | rfl | rfl | rfl | rfl <;> rfl
theorem addr_add (b p j : Nat) : (⟨b, p, none⟩ : Addr).add j = ⟨b, p + j, none⟩ := by unfold Addr.add; split <;> simp_all
theorem newsV_at {W : World} (bb : Nat) : ∀ (l : List VT) (off : Nat), (∀ (k : Nat) (t : VT), l[k]? = some t → Cells10 W bb (off + k * 10) t) → ∀ (j : Nat) (u : Value), (newsV l)[j]? = some u → W.cell? ⟨bb, off + j, none⟩ = some u
  | [], off, h, j, u, hu => by simp [newsV] at hu
  | t :: l, off, h, j, u, hu => by
    have e : newsV (t :: l) = t.cells ++ newsV l := by unfold newsV; rw [List.flatMap_cons]
    rw [e] at hu
    by_cases hj : j < 10
    · rw [List.getElem?_append_left (by rw [VT.cells_length]; exact hj)] at hu
      have := h 0 t rfl j u hu
      rwa [show off + 0 * 10 + j = off + j by omega] at this
    · rw [List.getElem?_append_right (by rw [VT.cells_length]; omega), VT.cells_length] at hu
      have := newsV_at bb l (off + 10) (fun k t' hk => by
        have := h (k + 1) t' (by simpa using hk)
        rwa [show off + (k + 1) * 10 = off + 10 + k * 10 by omega] at this) (j - 10) u hu
      rwa [show off + 10 + (j - 10) = off + j by omega] at this
theorem kids_news {W : World} {la : Option Addr} {kids : List VT} {bb off : Nat} (h : Kids W la kids bb off) : ∀ (j : Nat) (u : Value), (newsV kids)[j]? = some u → W.cell? ((⟨bb, off, none⟩ : Addr).add j) = some u := by
  intro j u hu
  rw [addr_add]
  exact newsV_at bb kids off h.cells j u hu
theorem news_new (W : World) (cs : Array Value) (T : TypeId) : ∀ j u, cs.toList[j]? = some u → (W.alloc (.cells cs T)).cell? ((⟨W.heap.size, 0, none⟩ : Addr).add j) = some u :=
  World.news_of_block (heap_alloc_new W _)

theorem cell_set_other {W : World} {a b i j : Nat} {v : Value} (h : W.cell? ⟨a, j, none⟩ = some v) (hne : a ≠ b) (u : Value) : (W.setCell ⟨b, i, none⟩ u).cell? ⟨a, j, none⟩ = some v :=
  (World.cell?_of_block (Below.heap_setCell W ⟨b, i, none⟩ u a hne)).trans h
theorem cell_of_str0 (W : World) (v : Value) (T : TypeId) (H : Nat) (h : W.heap.size = H) : ∀ j u, [v][j]? = some u → (W.alloc (.cells #[v] T)).cell? ((⟨H, 0, none⟩ : Addr).add j) = some u := by
  subst h; exact cell_of_str W v T
theorem news_new0 (W : World) (cs : Array Value) (T : TypeId) (H : Nat) (h : W.heap.size = H) : ∀ j u, cs.toList[j]? = some u → (W.alloc (.cells cs T)).cell? ((⟨H, 0, none⟩ : Addr).add j) = some u := by
  subst h; exact news_new W cs T
end Go.Proofs.YtfaaagmjmljhiaaGreatDoor
