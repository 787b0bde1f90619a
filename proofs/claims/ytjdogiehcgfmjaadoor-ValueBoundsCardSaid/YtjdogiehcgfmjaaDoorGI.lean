/-
  BndMath BndRow BoundsW, one behind the other: a claim holds at most 60 files.
-/
import Derived.Test.YtjdogiehcgfmjaaDoorGH
import Derived.Test.YtjdogiehcgfmjaaDoorValTold
import Derived.Laws.MakeOwn
import Derived.Laws.BytesArg
import Derived.Test.YtjdogiehcgfmjaaDoorValMay
import Derived.Test.YtjdogiehcgfmjaaDoorValClone
section
namespace Go.Proofs.YtjdogiehcgfmjaaDoor
open Go.RowKit Go.Shelf

/-- So deep, so many, nothing too much, nothing wrong, all small. -/
structure Fit (T : VT) (d n : Nat) (ov : Bool) : Prop where
  depth : T.depth = d
  nodes : T.nodes = n
  over : hasT overT T = ov
  wrong : hasT wrongT T = false
  small : T.Every SmallO
theorem Fit.may {T : VT} {d n : Nat} {ov : Bool} (h : Fit T d n ov) : mayN T = if 16 < d then 4 else if ov then 8 else 0 := by
  unfold mayN
  rw [h.depth, h.over, h.wrong]
  rfl
/-- A value of a kind and bits alone. -/
def leafB (k b : Int) : VT := .mk ⟨k, false, 0, b, ⟨#[]⟩, none, 0, none, 0, []⟩ []
theorem leafB_cells (k b : Int) : (leafB k b).cells = [.int .i64 k, .bool false, .int .u64 0, .int .u64 0, .int .u64 0, .int .u64 0, .int .u64 b, .string ⟨#[]⟩, .slice none 0 0, .slice none 0 0] := by
  unfold leafB VT.cells
  simp only [VT.o_mk, VT.kids_mk, lb_zero, List.length_nil]
theorem leafB_from (k b : Int) (hk : -100 ≤ k ∧ k ≤ 100) (hb : 0 ≤ b ∧ b ≤ 18446744073709551615) (lo : Nat) (w : World) : (leafB k b).From lo w :=
  .mk _ _ ⟨⟨by show _ ≤ k; omega, by show k ≤ _; omega⟩, (show 0 < 2 ^ 256 by decide), hb, Nat.zero_le _, ⟨Nat.le_refl _, Nat.zero_le _⟩, ⟨Nat.le_refl _, Nat.zero_le _⟩, fun s h => by cases h⟩
    ⟨lo, 0, Nat.le_refl _, fun h => absurd h (by simp), fun i s h => by simp at h⟩ ⟨lo, 0, Nat.le_refl _, fun h => absurd h (by simp), fun i s h => by simp at h⟩ (fun i t h => by simp at h)
theorem leafB_fit (k b : Int) (h : k = 1 ∧ b = 0 ∨ k = 2 ∧ (b = 0 ∨ b = 1)) : Fit (leafB k b) 1 1 false := by
  have hh : ∀ p, hasT p (leafB k b) = p (leafB k b) := fun p => by rw [hasT_mk]; simp [leafB]
  refine ⟨by unfold leafB; rw [VT.depth_mk]; rfl, by unfold leafB; rw [VT.nodes_mk]; rfl, ?_, ?_, .mk _ _ ⟨Nat.zero_le _, fun s h => by cases h⟩ (fun t h => by cases h)⟩
  · rw [hh]
    show overB (leafB k b).o 0 = false
    rcases h with ⟨rfl, rfl⟩ | ⟨rfl, rfl | rfl⟩ <;> rfl
  · rw [hh]
    show (!ownB (leafB k b).o 0) = false
    have : ownB (leafB k b).o 0 = true := by
      unfold ownB
      rw [Bool.and_eq_true]
      rcases h with ⟨rfl, rfl⟩ | ⟨rfl, rfl | rfl⟩
      · refine ⟨?_, rfl⟩
        show eqO 1 false (lb 0 0) (lb 1 0) (lb 2 0) (lb 3 0) 0 ⟨#[]⟩ ((0 : Nat) : Int) ((0 : Nat) : Int) 1 false 0 0 0 0 0 ⟨#[]⟩ ((0 : Nat) : Int) ((0 : Nat) : Int) = true
        simp only [lb_zero]; exact eqO_same _ _ _ _ _ _ _ _ _ _
      · refine ⟨?_, rfl⟩
        show eqO 2 false (lb 0 0) (lb 1 0) (lb 2 0) (lb 3 0) 0 ⟨#[]⟩ ((0 : Nat) : Int) ((0 : Nat) : Int) 2 false 0 0 0 0 0 ⟨#[]⟩ ((0 : Nat) : Int) ((0 : Nat) : Int) = true
        simp only [lb_zero]; exact eqO_same _ _ _ _ _ _ _ _ _ _
      · refine ⟨?_, rfl⟩
        show eqO 2 false (lb 0 0) (lb 1 0) (lb 2 0) (lb 3 0) 1 ⟨#[]⟩ ((0 : Nat) : Int) ((0 : Nat) : Int) 2 false 0 0 0 0 1 ⟨#[]⟩ ((0 : Nat) : Int) ((0 : Nat) : Int) = true
        simp only [lb_zero]; exact eqO_same _ _ _ _ _ _ _ _ _ _
    rw [this]; rfl
/-- One more array, one more map around a value. -/
def wrapO (maps : Bool) (B lc : Nat) (ka : Option Addr) (kc : Nat) : Own := if maps then ⟨8, false, 0, 0, ⟨#[]⟩, some ⟨B, 0, none⟩, lc, ka, kc, [⟨#[107]⟩]⟩ else ⟨7, false, 0, 0, ⟨#[]⟩, some ⟨B, 0, none⟩, lc, none, 0, []⟩
theorem wrap_own (maps : Bool) (B lc : Nat) (ka : Option Addr) (kc : Nat) : ownB (wrapO maps B lc ka kc) 1 = true ∧ overB (wrapO maps B lc ka kc) 1 = false ∧ SmallO (wrapO maps B lc ka kc) := by
  cases maps with
  | true =>
    have hn : namesB [⟨#[107]⟩] = true := by decide +kernel
    refine ⟨?_, ?_, Nat.zero_le _, fun s hs => ?_⟩
    · unfold ownB
      rw [Bool.and_eq_true]
      constructor
      · show eqO 8 false (lb 0 0) (lb 1 0) (lb 2 0) (lb 3 0) 0 ⟨#[]⟩ ((1 : Nat) : Int) ((1 : Nat) : Int) 8 false 0 0 0 0 0 ⟨#[]⟩ ((1 : Nat) : Int) ((1 : Nat) : Int) = true
        simp only [lb_zero]; exact eqO_same _ _ _ _ _ _ _ _ _ _
      · show (decide (1 = 1) && namesB [⟨#[107]⟩]) = true
        rw [hn]; rfl
    · show (decide (1000 < max 1 1) || [(⟨#[107]⟩ : ByteArray)].any fun s => decide (4096 < s.size)) = false
      rfl
    · have : s = ⟨#[107]⟩ := by simpa [wrapO] using hs
      subst this
      show 1 ≤ 100000
      omega
  | false =>
    refine ⟨?_, ?_, Nat.zero_le _, fun s hs => by cases hs⟩
    · unfold ownB
      rw [Bool.and_eq_true]
      refine ⟨?_, rfl⟩
      show eqO 7 false (lb 0 0) (lb 1 0) (lb 2 0) (lb 3 0) 0 ⟨#[]⟩ ((0 : Nat) : Int) ((1 : Nat) : Int) 7 false 0 0 0 0 0 ⟨#[]⟩ ((0 : Nat) : Int) ((1 : Nat) : Int) = true
      simp only [lb_zero]; exact eqO_same _ _ _ _ _ _ _ _ _ _
    · rfl
theorem wrap_fit {T : VT} {d n : Nat} (h : Fit T d n false) (maps : Bool) (B lc : Nat) (ka : Option Addr) (kc : Nat) : Fit (.mk (wrapO maps B lc ka kc) [T]) (d + 1) (n + 1) false := by
  obtain ⟨a1, a2, a3⟩ := wrap_own maps B lc ka kc
  refine ⟨?_, ?_, ?_, ?_, .mk _ _ a3 (fun t ht => by obtain rfl := List.mem_singleton.1 ht; exact h.small)⟩
  · rw [VT.depth_mk]; simp [h.depth]; omega
  · rw [VT.nodes_mk]; simp [h.nodes]; omega
  · rw [hasT_mk]
    show (overB (wrapO maps B lc ka kc) 1 || [T].any (hasT overT)) = false
    rw [a2]; simp [h.over]
  · rw [hasT_mk]
    show ((!ownB (wrapO maps B lc ka kc) 1) || [T].any (hasT wrongT)) = false
    rw [a1]; simp [h.wrong]
theorem wrap_from {T : VT} {lo : Nat} {W : World} (maps : Bool) {B lc kc kb : Nat} (hT : T.From lo W) (hB : lo ≤ B) (hc : Cells10 W B 0 T) (hlc : 1 ≤ lc ∧ lc ≤ maxLen) (hkc : 1 ≤ kc ∧ kc ≤ maxLen) (hkb : lo ≤ kb) (hk : maps = true → W.cell? ⟨kb, 0, none⟩ = some (.string ⟨#[107]⟩)) :
    (VT.mk (wrapO maps B lc (some ⟨kb, 0, none⟩) kc) [T]).From lo W := by
  have hl : ∃ b off, lo ≤ b ∧ (0 < [T].length → (some ⟨B, 0, none⟩ : Option Addr) = some ⟨b, off, none⟩) ∧ ∀ (i : Nat) (t : VT), [T][i]? = some t → Cells10 W b (off + i * 10) t := by
    refine ⟨B, 0, hB, fun _ => rfl, fun i t ht => ?_⟩
    match i, ht with
    | 0, ht => simp at ht; subst ht; exact hc
  have hi : ∀ (i : Nat) (t : VT), [T][i]? = some t → t.From lo W := fun i t ht => by
    match i, ht with
    | 0, ht => simp at ht; subst ht; exact hT
  cases maps with
  | true =>
    refine .mk _ _ ⟨(show (-9223372036854775808 : Int) ≤ 8 ∧ (8 : Int) ≤ 9223372036854775807 by omega), (show 0 < 2 ^ 256 by decide), (show (0 : Int) ≤ 0 ∧ (0 : Int) ≤ 18446744073709551615 by omega), Nat.zero_le _, hlc, hkc, fun s hs => ?_⟩ ⟨kb, 0, hkb, fun _ => rfl, fun i s hs => ?_⟩ hl hi
    · have : s = ⟨#[107]⟩ := by simpa [wrapO] using hs
      subst this
      show 1 ≤ maxLen
      decide
    · match i, hs with
      | 0, hs =>
        have : s = ⟨#[107]⟩ := by simpa [wrapO] using hs.symm
        subst this
        exact hk rfl
  | false =>
    exact .mk _ _ ⟨(show (-9223372036854775808 : Int) ≤ 7 ∧ (7 : Int) ≤ 9223372036854775807 by omega), (show 0 < 2 ^ 256 by decide), (show (0 : Int) ≤ 0 ∧ (0 : Int) ≤ 18446744073709551615 by omega), Nat.zero_le _, hlc, ⟨Nat.le_refl _, Nat.zero_le _⟩, fun s hs => by cases hs⟩ ⟨lo, 0, Nat.le_refl _, fun h => absurd h (by simp [wrapO]), fun i s hs => by simp [wrapO] at hs⟩ hl hi
end Go.Proofs.YtjdogiehcgfmjaaDoor
end
section
namespace Go.Proofs.YtjdogiehcgfmjaaDoor
open Go.RowKit Go.Shelf

/-- The value in its block: so deep. -/
def ChainV (wr : World) (p i : Nat) : Prop :=
  ∃ (kd : Int) (la : Option Addr) (lc : Nat) (ka : Option Addr) (kc : Nat) (keys : List ByteArray) (kids : List VT),
    Row10 wr p (.int .i64 kd) (.bool false) (.int .u64 0) (.int .u64 0) (.int .u64 0) (.int .u64 0) (.int .u64 0) (.string ⟨#[]⟩) (.slice la kids.length lc) (.slice ka keys.length kc) ∧
    (VT.mk ⟨kd, false, 0, 0, ⟨#[]⟩, la, lc, ka, kc, keys⟩ kids).From (p + 1) wr ∧ Fit (VT.mk ⟨kd, false, 0, 0, ⟨#[]⟩, la, lc, ka, kc, keys⟩ kids) i i false
theorem ChainV.start (w : World) : ChainV (w.alloc (.cells #[.int .i64 1, .bool false, .int .u64 0, .int .u64 0, .int .u64 0, .int .u64 0, .int .u64 0, .string ⟨#[]⟩, .slice none 0 0, .slice none 0 0] 31)) w.heap.size 1 :=
  ⟨1, none, 0, none, 0, [], [], Row10.new w _ _ _ _ _ _ _ _ _ _, leafB_from 1 0 (by omega) (by omega) _ _, leafB_fit 1 0 (.inl ⟨rfl, rfl⟩)⟩

theorem cells_of_row {W : World} {B : Nat} {kd : Int} {la : Option Addr} {lc : Nat} {ka : Option Addr} {kc : Nat} {keys : List ByteArray} {kids : List VT}
    (h : Row10 W B (.int .i64 kd) (.bool false) (.int .u64 0) (.int .u64 0) (.int .u64 0) (.int .u64 0) (.int .u64 0) (.string ⟨#[]⟩) (.slice la kids.length lc) (.slice ka keys.length kc)) : Cells10 W B 0 (.mk ⟨kd, false, 0, 0, ⟨#[]⟩, la, lc, ka, kc, keys⟩ kids) := by
  intro j u hu
  simp only [VT.cells, VT.o_mk, VT.kids_mk, lb_zero] at hu
  rw [cell_of_row W B (0 + j) _ _ _ h, Nat.zero_add]
  have : (#[.int .i64 kd, .bool false, .int .u64 0, .int .u64 0, .int .u64 0, .int .u64 0, .int .u64 0, .string ⟨#[]⟩, .slice la kids.length lc, .slice ka keys.length kc] : Array Value)[j]? = ([.int .i64 kd, .bool false, .int .u64 0, .int .u64 0, .int .u64 0, .int .u64 0, .int .u64 0, .string ⟨#[]⟩, .slice la kids.length lc, .slice ka keys.length kc] : List Value)[j]? := by simp
  rw [this]
  exact hu
theorem row_new1 (w : World) (o : Obj) (v0 v1 v2 v3 v4 v5 v6 v7 v8 v9 : Value) : Row10 ((w.alloc o).alloc (.cells #[v0, v1, v2, v3, v4, v5, v6, v7, v8, v9] 31)) (w.heap.size + 1) v0 v1 v2 v3 v4 v5 v6 v7 v8 v9 := by
  have := Row10.new (w.alloc o) v0 v1 v2 v3 v4 v5 v6 v7 v8 v9
  rwa [size_alloc] at this
theorem key_new2 (w : World) (o o' : Obj) {v : Value} {t : TypeId} : (((w.alloc o).alloc o').alloc (.cells #[v] t)).cell? ⟨w.heap.size + 1 + 1, 0, none⟩ = some v := by
  have h := heap_alloc_new ((w.alloc o).alloc o') (.cells #[v] t)
  rw [size_alloc, size_alloc] at h
  rw [cell_of_row _ _ 0 _ _ _ h]; rfl
section
variable {wr w2 : World} {p k kb : Nat} {kd : Int} {la : Option Addr} {lc : Nat} {ka : Option Addr} {kc : Nat} {keys : List ByteArray} {kids : List VT} {v0 v1 v2 v3 v4 v5 v6 v7 v8 v9 : Value}
theorem chain_map (hF : (VT.mk ⟨kd, false, 0, 0, ⟨#[]⟩, la, lc, ka, kc, keys⟩ kids).From (p + 1) wr) (hFit : Fit (VT.mk ⟨kd, false, 0, 0, ⟨#[]⟩, la, lc, ka, kc, keys⟩ kids) k k false) (hp : p < wr.heap.size) (hb : Below wr.heap.size wr w2)
    (hB : Row10 w2 wr.heap.size (.int .i64 kd) (.bool false) (.int .u64 0) (.int .u64 0) (.int .u64 0) (.int .u64 0) (.int .u64 0) (.string ⟨#[]⟩) (.slice la kids.length lc) (.slice ka keys.length kc))
    (hkb : p + 1 ≤ kb) (hk : w2.cell? ⟨kb, 0, none⟩ = some (.string ⟨#[107]⟩)) (hR : Row10 w2 p v0 v1 v2 v3 v4 v5 v6 v7 v8 v9) :
    ChainV (put10 w2 p 0 (.int .i64 8) (.bool false) (.int .u64 0) (.int .u64 0) (.int .u64 0) (.int .u64 0) (.int .u64 0) (.string ⟨#[]⟩) (.slice (some ⟨wr.heap.size, 0, none⟩) 1 1) (.slice (some ⟨kb, 0, none⟩) 1 1)) p (k + 1) :=
  ⟨8, some ⟨wr.heap.size, 0, none⟩, 1, some ⟨kb, 0, none⟩, 1, [⟨#[107]⟩], [VT.mk ⟨kd, false, 0, 0, ⟨#[]⟩, la, lc, ka, kc, keys⟩ kids], hR.set10 _ _ _ _ _ _ _ _ _ _,
    wrap_from true ((hF.kept (kept_below hb)).kept (kept_put10 (by omega))) (by omega) (fun j u hu => put10_cell (cells_of_row hB j u hu) (by omega)) ⟨Nat.le_refl _, by decide⟩ ⟨Nat.le_refl _, by decide⟩ hkb (fun _ => put10_cell hk (by omega)),
    wrap_fit hFit true _ _ _ _⟩
theorem chain_array (hF : (VT.mk ⟨kd, false, 0, 0, ⟨#[]⟩, la, lc, ka, kc, keys⟩ kids).From (p + 1) wr) (hFit : Fit (VT.mk ⟨kd, false, 0, 0, ⟨#[]⟩, la, lc, ka, kc, keys⟩ kids) k k false) (hp : p < wr.heap.size) (hb : Below wr.heap.size wr w2)
    (hB : Row10 w2 wr.heap.size (.int .i64 kd) (.bool false) (.int .u64 0) (.int .u64 0) (.int .u64 0) (.int .u64 0) (.int .u64 0) (.string ⟨#[]⟩) (.slice la kids.length lc) (.slice ka keys.length kc))
    (hR : Row10 w2 p v0 v1 v2 v3 v4 v5 v6 v7 v8 v9) :
    ChainV (put10 w2 p 0 (.int .i64 7) (.bool false) (.int .u64 0) (.int .u64 0) (.int .u64 0) (.int .u64 0) (.int .u64 0) (.string ⟨#[]⟩) (.slice (some ⟨wr.heap.size, 0, none⟩) 1 1) (.slice none 0 0)) p (k + 1) :=
  ⟨7, some ⟨wr.heap.size, 0, none⟩, 1, none, 0, [], [VT.mk ⟨kd, false, 0, 0, ⟨#[]⟩, la, lc, ka, kc, keys⟩ kids], hR.set10 _ _ _ _ _ _ _ _ _ _,
    wrap_from false (kb := p + 1) (kc := 1) ((hF.kept (kept_below hb)).kept (kept_put10 (by omega))) (by omega) (fun j u hu => put10_cell (cells_of_row hB j u hu) (by omega)) ⟨Nat.le_refl _, by decide⟩ ⟨Nat.le_refl _, by decide⟩ (Nat.le_refl _) (fun h => by cases h),
    wrap_fit hFit false _ _ none 0⟩
end

theorem and_one (n : Int) : bits .and .i64 n 1 = n % 2 := by
  have h1 : (BitVec.ofInt 64 1).toNat = 2 ^ 1 - 1 := by decide
  have key : (BitVec.ofInt 64 n &&& BitVec.ofInt 64 1).toNat = (n % ((2 ^ 64 : Nat) : Int)).toNat % 2 ^ 1 := by
    rw [BitVec.toNat_and, BitVec.toNat_ofInt, h1, Nat.and_two_pow_sub_one_eq_mod]
  show IntKind.i64.wrap ((BitVec.ofInt 64 n &&& BitVec.ofInt 64 1).toNat : Nat) = n % 2
  rw [key, IntKind.wrap_i64]
  omega
/-- So far in the row: flags, and what is not stored yet. -/
def FlagL (G : Nat) (wr : World) (K k : Nat) : Prop :=
  ∃ As : List VT, As.length = k ∧ (∀ t ∈ As, ∃ b : Int, (b = 0 ∨ b = 1) ∧ t = leafB 2 b) ∧ Cur wr G 31 (newsV (As ++ List.replicate (K - k) (leafB 0 0)))
theorem FlagL.start {G : Nat} {wr : World} {K : Nat} (h : Cur wr G 31 (newsV (List.replicate K (leafB 0 0)))) : FlagL G wr K 0 := ⟨[], rfl, fun t ht => absurd ht (by simp), by simpa using h⟩
theorem FlagL.keep {G : Nat} {wr w2 : World} {K k : Nat} (h : FlagL G wr K k) (hb : Below wr.heap.size wr w2) : FlagL G w2 K k := by
  obtain ⟨As, h1, h2, h3⟩ := h
  exact ⟨As, h1, h2, h3.keep hb⟩
theorem FlagL.cells {G : Nat} {wr : World} {K k : Nat} (h : FlagL G wr K k) (hk : k < K) : Cells10 wr G (k * 10) (leafB 0 0) ∧ (∀ j, wr.frozen? ⟨G, j, none⟩ = false) ∧ G < wr.heap.size := by
  obtain ⟨As, h1, h2, h3⟩ := h
  refine ⟨fun j u hu => h3.cell (newsV_cell (t := leafB 0 0) ?_ hu), fun j => h3.free j, h3.lt⟩
  rw [List.getElem?_append_right (by omega), h1, Nat.sub_self, List.getElem?_replicate, if_pos (by omega)]
theorem FlagL.next {G : Nat} {wr : World} {K k : Nat} {b : Int} (h : FlagL G wr K k) (hk : k < K) (hb : b = 0 ∨ b = 1) :
    FlagL G (put10 wr G (k * 10) (.int .i64 2) (.bool false) (.int .u64 0) (.int .u64 0) (.int .u64 0) (.int .u64 0) (.int .u64 b) (.string ⟨#[]⟩) (.slice none 0 0) (.slice none 0 0)) K (k + 1) := by
  obtain ⟨As, h1, h2, h3⟩ := h
  refine ⟨As ++ [leafB 2 b], by simp [h1], fun t ht => ?_, ?_⟩
  · rcases List.mem_append.1 ht with ht | ht
    · exact h2 t ht
    · exact ⟨b, hb, List.mem_singleton.1 ht⟩
  · rw [show K - k = (K - (k + 1)) + 1 by omega, List.replicate_succ] at h3
    have a3 := ((((((((((h3.set (k * 10) (.int .i64 2)).set (k * 10 + 1) (.bool false)).set (k * 10 + 2) (.int .u64 (lb 0 0))).set (k * 10 + 3) (.int .u64 (lb 1 0))).set (k * 10 + 4) (.int .u64 (lb 2 0))).set (k * 10 + 5) (.int .u64 (lb 3 0))).set (k * 10 + 6) (.int .u64 b)).set (k * 10 + 7) (.string ⟨#[]⟩)).set (k * 10 + 8) (.slice none ([] : List VT).length 0)).set (k * 10 + 9) (.slice none ([] : List ByteArray).length 0))
    rw [set_ten h1] at a3
    simp only [lb_zero, List.length_nil] at a3
    rw [List.append_assoc]
    exact a3
/-- The cells that make lays. -/
theorem made_news (N : Nat) : ∀ (j : Nat) (u : Value), (newsV (List.replicate N (leafB 0 0)))[j]? = some u → (madeCells (V10 0 false 0 0 0 0 0 ⟨#[]⟩ none 0 0 none 0 0).cells (N * 10))[j]? = some u := by
  have hc : (V10 0 false 0 0 0 0 0 ⟨#[]⟩ none 0 0 none 0 0).cells = (leafB 0 0).cells.toArray := by rw [leafB_cells]; rfl
  intro j u hu
  have hj : j < N * 10 := by
    have := (List.getElem?_eq_some_iff.1 hu).1
    rw [newsV_length, List.length_replicate] at this
    exact this
  have hlt : j % 10 < 10 := Nat.mod_lt _ (by omega)
  obtain ⟨v, hv⟩ : ∃ v, (leafB 0 0).cells[j % 10]? = some v := ⟨_, List.getElem?_eq_getElem (by rw [VT.cells_length]; exact hlt)⟩
  have h2 := newsV_cell (l := List.replicate N (leafB 0 0)) (k := j / 10) (t := leafB 0 0) (by rw [List.getElem?_replicate, if_pos (by omega)]) hv
  rw [show j / 10 * 10 + j % 10 = j by omega, hu] at h2
  cases h2
  unfold madeCells
  rw [hc]
  simp only [Array.getElem?_map]
  rw [Array.getElem?_range, if_pos hj]
  simp only [Option.map_some, Option.some.injEq]
  have hs : (leafB 0 0).cells.toArray.size = 10 := by simp [VT.cells_length]
  rw [hs, getElem!_pos _ _ (by rw [hs]; exact hlt)]
  have := (List.getElem?_eq_some_iff.1 hv).2
  simpa using this
/-- A row of flags, as a tree. -/
theorem flags_fit {As : List VT} (h : ∀ t ∈ As, ∃ b : Int, (b = 0 ∨ b = 1) ∧ t = leafB 2 b) (h0 : 0 < As.length) (G lc : Nat) :
    Fit (.mk ⟨7, false, 0, 0, ⟨#[]⟩, some ⟨G, 0, none⟩, lc, none, 0, []⟩ As) 2 (As.length + 1) (decide (1000 < As.length)) := by
  have hf : ∀ t ∈ As, Fit t 1 1 false := fun t ht => by
    obtain ⟨b, hb, rfl⟩ := h t ht
    exact leafB_fit 2 b (.inr ⟨rfl, hb⟩)
  have hown : ownB ⟨7, false, 0, 0, ⟨#[]⟩, some ⟨G, 0, none⟩, lc, none, 0, []⟩ As.length = true := by
    unfold ownB
    rw [Bool.and_eq_true]
    refine ⟨?_, rfl⟩
    show eqO 7 false (lb 0 0) (lb 1 0) (lb 2 0) (lb 3 0) 0 ⟨#[]⟩ ((0 : Nat) : Int) (As.length : Int) 7 false 0 0 0 0 0 ⟨#[]⟩ ((0 : Nat) : Int) (As.length : Int) = true
    simp only [lb_zero]; exact eqO_same _ _ _ _ _ _ _ _ _ _
  refine ⟨?_, ?_, ?_, ?_, .mk _ _ ⟨Nat.zero_le _, fun s hs => by cases hs⟩ (fun t ht => (hf t ht).small)⟩
  · rw [VT.depth_mk]
    have h1 : (As.map VT.depth).foldl max 0 ≤ 1 := foldl_max_le (by omega) fun x hx => by
      obtain ⟨t, ht, rfl⟩ := List.mem_map.1 hx
      rw [(hf t ht).depth]; exact Nat.le_refl _
    obtain ⟨t, ht, hm⟩ := kid_at h0
    have h2 : t.depth ≤ (As.map VT.depth).foldl max 0 := foldl_max_mem (List.mem_map.2 ⟨t, hm, rfl⟩)
    rw [(hf t hm).depth] at h2
    omega
  · rw [VT.nodes_mk]
    have : ∀ l : List VT, (∀ t ∈ l, t.nodes = 1) → (l.map VT.nodes).sum = l.length := by
      intro l
      induction l with
      | nil => intro _; rfl
      | cons a l ih => intro hl; simp only [List.map_cons, List.sum_cons, List.length_cons]; rw [hl a (by simp), ih fun t ht => hl t (by simp [ht])]; omega
    rw [this As fun t ht => (hf t ht).nodes]; omega
  · rw [hasT_mk]
    have hk : As.any (hasT overT) = false := by rw [List.any_eq_false]; intro t ht; rw [(hf t ht).over]; simp
    show (decide (1000 < As.length) || As.any (hasT overT)) = _
    rw [hk, Bool.or_false]
  · rw [hasT_mk]
    have hk : As.any (hasT wrongT) = false := by rw [List.any_eq_false]; intro t ht; rw [(hf t ht).wrong]; simp
    show ((!ownB ⟨7, false, 0, 0, ⟨#[]⟩, some ⟨G, 0, none⟩, lc, none, 0, []⟩ As.length) || As.any (hasT wrongT)) = false
    rw [hown, hk]; rfl
theorem flags_in {As : List VT} {W : World} {G lc : Nat} (h : ∀ t ∈ As, ∃ b : Int, (b = 0 ∨ b = 1) ∧ t = leafB 2 b) (hc : Cur W G 31 (newsV As)) (hl : As.length ≤ lc ∧ lc ≤ maxLen) :
    (VT.mk ⟨7, false, 0, 0, ⟨#[]⟩, some ⟨G, 0, none⟩, lc, none, 0, []⟩ As).In W :=
  .mk _ _ ⟨(show (-9223372036854775808 : Int) ≤ 7 ∧ (7 : Int) ≤ 9223372036854775807 by omega), (show 0 < 2 ^ 256 by decide), (show (0 : Int) ≤ 0 ∧ (0 : Int) ≤ 18446744073709551615 by omega), Nat.zero_le _, hl, ⟨Nat.le_refl _, Nat.zero_le _⟩, fun s hs => by cases hs⟩
    ⟨0, 0, fun h => absurd h (by simp), fun i s hs => by simp at hs⟩
    ⟨G, 0, fun _ => rfl, fun i t ht j u hu => by rw [show 0 + i * 10 + j = i * 10 + j by omega]; exact hc.cell (newsV_cell ht hu)⟩
    (fun i t ht => by
      obtain ⟨b, hb, rfl⟩ := h t (List.mem_of_getElem? ht)
      exact (leafB_from 2 b (by omega) (by omega) 0 W).ins)
/-- Bytes alone, as a tree. -/
def bytesT (s : ByteArray) : VT := .mk ⟨6, false, 0, 0, s, none, 0, none, 0, []⟩ []
theorem bytesT_in (s : ByteArray) (hs : s.size ≤ 100000) (w : World) : (bytesT s).In w :=
  .mk _ _ ⟨(show (-9223372036854775808 : Int) ≤ 6 ∧ (6 : Int) ≤ 9223372036854775807 by omega), (show 0 < 2 ^ 256 by decide), (show (0 : Int) ≤ 0 ∧ (0 : Int) ≤ 18446744073709551615 by omega), Nat.le_trans hs (by decide), ⟨Nat.le_refl _, Nat.zero_le _⟩, ⟨Nat.le_refl _, Nat.zero_le _⟩, fun s h => by cases h⟩
    ⟨0, 0, fun h => absurd h (by simp), fun i s h => by simp at h⟩ ⟨0, 0, fun h => absurd h (by simp), fun i s h => by simp at h⟩ (fun i t h => by simp at h)
theorem bytesT_fit (s : ByteArray) (hs : s.size ≤ 100000) : Fit (bytesT s) 1 1 (decide (4096 < s.size)) := by
  have hh : ∀ p, hasT p (bytesT s) = p (bytesT s) := fun p => by rw [hasT_mk]; simp [bytesT]
  refine ⟨by unfold bytesT; rw [VT.depth_mk]; rfl, by unfold bytesT; rw [VT.nodes_mk]; rfl, ?_, ?_, .mk _ _ ⟨hs, fun s h => by cases h⟩ (fun t h => by cases h)⟩
  · rw [hh]; rfl
  · rw [hh]
    show (!ownB ⟨6, false, 0, 0, s, none, 0, none, 0, []⟩ 0) = false
    have : ownB ⟨6, false, 0, 0, s, none, 0, none, 0, []⟩ 0 = true := by
      unfold ownB
      rw [Bool.and_eq_true]
      refine ⟨?_, rfl⟩
      show eqO 6 false (lb 0 0) (lb 1 0) (lb 2 0) (lb 3 0) 0 s ((0 : Nat) : Int) ((0 : Nat) : Int) 6 false 0 0 0 0 0 s ((0 : Nat) : Int) ((0 : Nat) : Int) = true
      simp only [lb_zero]; exact eqO_same _ _ _ _ _ _ _ _ _ _
    rw [this]; rfl
end Go.Proofs.YtjdogiehcgfmjaaDoor
end
section
namespace Go.Proofs.YtjdogiehcgfmjaaDoor
open Go.RowKit Go.Shelf

set_option maxRecDepth 100000 in
set_option maxHeartbeats 4000000 in
theorem bounds_core (n : Int) (maps : Bool) (r : Nat) (hr : IntKind.i64.wrap ((IntKind.u64.wrap n).tmod 5) = (r : Int)) (hr4 : r ≤ 4) (w : World) (hT : Tb w) :
    Calls Tryd.prog 3 #[.int .i64 n, .bool maps] w fun e w' => e = .returned (.bool true) ∧ Below w.heap.size w w' := by
  have HT := Lib.hid hT
  clear hT
  go_enter Tryd.func3, Tryd.ntmps3
  have CS := Lib.hid (ChainV.start w)
  have BS := Lib.hid (bal (Below.refl _ w) (.cells #[.int .i64 1, .bool false, .int .u64 0, .int .u64 0, .int .u64 0, .int .u64 0, .int .u64 0, .string ⟨#[]⟩, .slice none 0 0, .slice none 0 0] 31))
  go_wp2
  go_loopw [7] (fun i wr => ∃ k : Nat, 1 ≤ k ∧ k ≤ 14 + r ∧ i = .int .i64 k ∧ Hid (Below w.heap.size w wr) ∧ Hid (ChainV wr w.heap.size k)) (fun i _ => 14 + r - (intOf i).toNat)
  case atStart => exact ⟨1, Nat.le_refl _, by omega, rfl, BS, CS⟩
  case round =>
    obtain ⟨k, hk1, hk, rfl, BW, CW⟩ := hrel
    obtain ⟨kd, la, lc, ka, kc, keys, kids, hRow, hF, hFit⟩ := CW.out
    by_cases hlt : k < 14 + r
    · have hlt' : (k : Int) < 14 + (r : Int) := by omega
      obtain ⟨p0, p1, p2, p3, p4, p5, p6, p7, p8, p9⟩ := hRow.parts
      have pf := hRow.free
      have plt := hRow.lt
      have HR := Lib.hid hRow; have HF := Lib.hid hF; have HFit := Lib.hid hFit
      clear hRow hF hFit CW
      cases maps with
      | true =>
        have RB := Row10.new wr (.int .i64 kd) (.bool false) (.int .u64 0) (.int .u64 0) (.int .u64 0) (.int .u64 0) (.int .u64 0) (.string ⟨#[]⟩) (.slice la kids.length lc) (.slice ka keys.length kc)
        have BB := Below.refl wr.heap.size wr
        go_upto_region 9 with (fail)
        go_name_world w2 hw2
        have B2 : Hid (Below wr.heap.size wr w2) := by rw [← hw2]; exact bal (bal (bal BB _) _) _
        have R2 : Row10 w2 w.heap.size (.int .i64 kd) (.bool false) (.int .u64 0) (.int .u64 0) (.int .u64 0) (.int .u64 0) (.int .u64 0) (.string ⟨#[]⟩) (.slice la kids.length lc) (.slice ka keys.length kc) := by rw [← hw2]; exact ((HR.out.alloc _).alloc _).alloc _
        have E2 : Row10 w2 wr.heap.size (.int .i64 kd) (.bool false) (.int .u64 0) (.int .u64 0) (.int .u64 0) (.int .u64 0) (.int .u64 0) (.string ⟨#[]⟩) (.slice la kids.length lc) (.slice ka keys.length kc) := by rw [← hw2]; exact (RB.alloc _).alloc _
        have X2 : Row10 w2 (wr.heap.size + 1) (.int .i64 8) (.bool false) (.int .u64 0) (.int .u64 0) (.int .u64 0) (.int .u64 0) (.int .u64 0) (.string ⟨#[]⟩) (.slice (some ⟨wr.heap.size, 0, none⟩) 1 1) (.slice (some ⟨wr.heap.size + 1 + 1, 0, none⟩) 1 1) := by rw [← hw2]; exact (row_new1 wr _ _ _ _ _ _ _ _ _ _ _).alloc _
        have K2 : w2.cell? ⟨wr.heap.size + 1 + 1, 0, none⟩ = some (.string ⟨#[107]⟩) := by rw [← hw2]; exact key_new2 wr _ _
        have CH := Lib.hid (chain_map HF.out HFit.out plt B2.out E2 (by omega) K2 R2)
        have BN := Lib.hid (vbsc10 (btr BW.out B2.out) (Nat.le_refl w.heap.size) (.int .i64 8) (.bool false) (.int .u64 0) (.int .u64 0) (.int .u64 0) (.int .u64 0) (.int .u64 0) (.string ⟨#[]⟩) (.slice (some ⟨wr.heap.size, 0, none⟩) 1 1) (.slice (some ⟨wr.heap.size + 1 + 1, 0, none⟩) 1 1))
        clear hw2 p0 p1 p2 p3 p4 p5 p6 p7 p8 p9 pf RB BB E2
        obtain ⟨p0, p1, p2, p3, p4, p5, p6, p7, p8, p9⟩ := R2.parts
        have pf := R2.free
        have plt2 := R2.lt
        obtain ⟨x0, x1, x2, x3, x4, x5, x6, x7, x8, x9⟩ := X2.parts
        clear R2 X2
        go_wp2
        go_roundw
        case rel => exact ⟨k + 1, by omega, by omega, by go_num, BN, CH⟩
        case measure => simp [intOf]; omega
      | false =>
        have RB := Row10.new wr (.int .i64 kd) (.bool false) (.int .u64 0) (.int .u64 0) (.int .u64 0) (.int .u64 0) (.int .u64 0) (.string ⟨#[]⟩) (.slice la kids.length lc) (.slice ka keys.length kc)
        have BB := Below.refl wr.heap.size wr
        go_upto_region 9 with (fail)
        go_name_world w2 hw2
        have B2 : Hid (Below wr.heap.size wr w2) := by rw [← hw2]; exact bal (bal BB _) _
        have R2 : Row10 w2 w.heap.size (.int .i64 kd) (.bool false) (.int .u64 0) (.int .u64 0) (.int .u64 0) (.int .u64 0) (.int .u64 0) (.string ⟨#[]⟩) (.slice la kids.length lc) (.slice ka keys.length kc) := by rw [← hw2]; exact (HR.out.alloc _).alloc _
        have E2 : Row10 w2 wr.heap.size (.int .i64 kd) (.bool false) (.int .u64 0) (.int .u64 0) (.int .u64 0) (.int .u64 0) (.int .u64 0) (.string ⟨#[]⟩) (.slice la kids.length lc) (.slice ka keys.length kc) := by rw [← hw2]; exact RB.alloc _
        have X2 : Row10 w2 (wr.heap.size + 1) (.int .i64 7) (.bool false) (.int .u64 0) (.int .u64 0) (.int .u64 0) (.int .u64 0) (.int .u64 0) (.string ⟨#[]⟩) (.slice (some ⟨wr.heap.size, 0, none⟩) 1 1) (.slice none 0 0) := by rw [← hw2]; exact row_new1 wr _ _ _ _ _ _ _ _ _ _ _
        have CH := Lib.hid (chain_array HF.out HFit.out plt B2.out E2 R2)
        have BN := Lib.hid (vbsc10 (btr BW.out B2.out) (Nat.le_refl w.heap.size) (.int .i64 7) (.bool false) (.int .u64 0) (.int .u64 0) (.int .u64 0) (.int .u64 0) (.int .u64 0) (.string ⟨#[]⟩) (.slice (some ⟨wr.heap.size, 0, none⟩) 1 1) (.slice none 0 0))
        clear hw2 p0 p1 p2 p3 p4 p5 p6 p7 p8 p9 pf RB BB E2
        obtain ⟨p0, p1, p2, p3, p4, p5, p6, p7, p8, p9⟩ := R2.parts
        have pf := R2.free
        have plt2 := R2.lt
        obtain ⟨x0, x1, x2, x3, x4, x5, x6, x7, x8, x9⟩ := X2.parts
        clear R2 X2
        go_wp2
        go_roundw
        case rel => exact ⟨k + 1, by omega, by omega, by go_num, BN, CH⟩
        case measure => simp [intOf]; omega
    · rename World => w1
      have hge : ¬ (k : Int) < 14 + (r : Int) := by omega
      have hkk : k = 14 + r := by omega
      have HR := Lib.hid hRow; have HI := Lib.hid hF.ins; have HFit := Lib.hid (hkk ▸ hFit)
      clear hRow hF hFit CW hkk
      obtain ⟨K, hK⟩ : ∃ K : Nat, (998 + (r : Int)) = (K : Int) := ⟨998 + r, by omega⟩
      have hKn : K = 998 + r := by omega
      have HKN := Lib.hid hKn
      have hK0 : 0 < K := by omega
      have hK1 : K ≤ 1002 := by omega
      obtain ⟨i0, hi0, hz0, hz1, hz2⟩ := info_at info_val
      obtain ⟨M, hM⟩ : ∃ M, M = madeCells (V10 0 false 0 0 0 0 0 ⟨#[]⟩ none 0 0 none 0 0).cells (K * 10) := ⟨_, rfl⟩
      have hmk : ∀ W : World, (Instr.makeSlice 28 (.int .i64 (998 + (r : Int))) (.int .i64 (998 + (r : Int)))).run Tryd.prog W = .ok (.slice (some ⟨W.heap.size, 0, none⟩) K K) (W.alloc (.cells M 31)) := fun W => by
        have h := run_make (P := Tryd.prog) W 28 31 i0 _ und_vals hi0 hz0 .i64 .i64 (998 + (r : Int)) (998 + (r : Int)) (by omega) (by omega) (by rw [hz2]; omega) (by omega)
        rw [hK, hz1, Int.toNat_natCast, ← hM] at h
        rw [hK]
        exact h
      have hCur : ∀ W : World, FlagL W.heap.size (W.alloc (.cells M 31)) K 0 := fun W => FlagL.start ⟨M, heap_alloc_new W _, by rw [hM]; exact made_news K⟩
      have HCur := Lib.hid (hCur w1)
      have BA := Lib.hid (bal (bal (Below.refl _ w1) (.cells M 31)) (.cells #[.int .i64 7, .bool false, .int .u64 0, .int .u64 0, .int .u64 0, .int .u64 0, .int .u64 0, .string ⟨#[]⟩, .slice (some ⟨w1.heap.size, 0, none⟩) K K, .slice none 0 0] 31))
      have RA := Lib.hid (row_new1 w1 (.cells M 31) (.int .i64 7) (.bool false) (.int .u64 0) (.int .u64 0) (.int .u64 0) (.int .u64 0) (.int .u64 0) (.string ⟨#[]⟩) (.slice (some ⟨w1.heap.size, 0, none⟩) K K) (.slice none 0 0))
      have FA := Lib.hid (HCur.out.keep (bal (Below.refl _ (w1.alloc (.cells M 31))) (.cells #[.int .i64 7, .bool false, .int .u64 0, .int .u64 0, .int .u64 0, .int .u64 0, .int .u64 0, .string ⟨#[]⟩, .slice (some ⟨w1.heap.size, 0, none⟩) K K, .slice none 0 0] 31)))
      clear hM hCur HCur hK hKn
      go_wp2
      clear hk1 hk hlt hge
      go_loopw [11] (fun i wr => ∃ j : Nat, j ≤ K ∧ i = .int .i64 j ∧ Hid (Below w1.heap.size w1 wr) ∧ Hid (Row10 wr (w1.heap.size + 1) (.int .i64 7) (.bool false) (.int .u64 0) (.int .u64 0) (.int .u64 0) (.int .u64 0) (.int .u64 0) (.string ⟨#[]⟩) (.slice (some ⟨w1.heap.size, 0, none⟩) K K) (.slice none 0 0)) ∧ Hid (FlagL w1.heap.size wr K j)) (fun i _ => K - (intOf i).toNat)
      case atStart => exact ⟨0, Nat.zero_le _, rfl, BA, RA, FA⟩
      case round =>
        obtain ⟨j, hj, rfl, BS2, AS, FS⟩ := hrel
        by_cases hjlt : j < K
        · have hj1 : (j : Int) < 998 + (r : Int) := by have := HKN.out; omega
          have hj2 : (j : Int) < (K : Int) := by omega
          obtain ⟨hc10, hfr, hglt⟩ := FS.out.cells hjlt
          have hc := fun i u (h : (leafB 0 0).cells[i]? = some u) => hc10 i u h
          rw [leafB_cells] at hc
          have d0 := hc 0 _ rfl; have d1 := hc 1 _ rfl; have d2 := hc 2 _ rfl; have d3 := hc 3 _ rfl; have d4 := hc 4 _ rfl; have d5 := hc 5 _ rfl; have d6 := hc 6 _ rfl; have d7 := hc 7 _ rfl; have d8 := hc 8 _ rfl; have d9 := hc 9 _ rfl
          simp only [Nat.add_zero] at d0
          clear hc hc10
          obtain ⟨a0, a1, a2, a3, a4, a5, a6, a7, a8, a9⟩ := AS.out.parts
          clear a0 a1 a2 a3 a4 a5 a6 a7 a9
          obtain ⟨bq, hbq, hb01⟩ : ∃ bq : Int, bits .and .i64 (j : Int) 1 = bq ∧ (bq = 0 ∨ bq = 1) := ⟨_, rfl, by rw [and_one]; omega⟩
          have hbw : IntKind.u64.wrap bq = bq := by simp only [IntKind.wrap, IntKind.signed, IntKind.bits]; simp; omega
          have FN := Lib.hid (FlagL.next FS.out hjlt hb01)
          have BN2 := Lib.hid (bsc (bsc (bsc (bsc (bsc (bsc (bsc (bsc (bsc (bsc BS2.out (p := ⟨w1.heap.size, j * 10, none⟩) (Nat.le_refl _) (.int .i64 2)) (p := ⟨w1.heap.size, j * 10 + 1, none⟩) (Nat.le_refl _) (.bool false)) (p := ⟨w1.heap.size, j * 10 + 2, none⟩) (Nat.le_refl _) (.int .u64 0)) (p := ⟨w1.heap.size, j * 10 + 3, none⟩) (Nat.le_refl _) (.int .u64 0)) (p := ⟨w1.heap.size, j * 10 + 4, none⟩) (Nat.le_refl _) (.int .u64 0)) (p := ⟨w1.heap.size, j * 10 + 5, none⟩) (Nat.le_refl _) (.int .u64 0)) (p := ⟨w1.heap.size, j * 10 + 6, none⟩) (Nat.le_refl _) (.int .u64 bq)) (p := ⟨w1.heap.size, j * 10 + 7, none⟩) (Nat.le_refl _) (.string ⟨#[]⟩)) (p := ⟨w1.heap.size, j * 10 + 8, none⟩) (Nat.le_refl _) (.slice none 0 0)) (p := ⟨w1.heap.size, j * 10 + 9, none⟩) (Nat.le_refl _) (.slice none 0 0))
          have RN2 := Lib.hid (((((((((((AS.out.set (c := w1.heap.size) (i := j * 10) (by omega) (.int .i64 2)).set (c := w1.heap.size) (i := j * 10 + 1) (by omega) (.bool false)).set (c := w1.heap.size) (i := j * 10 + 2) (by omega) (.int .u64 0)).set (c := w1.heap.size) (i := j * 10 + 3) (by omega) (.int .u64 0)).set (c := w1.heap.size) (i := j * 10 + 4) (by omega) (.int .u64 0)).set (c := w1.heap.size) (i := j * 10 + 5) (by omega) (.int .u64 0)).set (c := w1.heap.size) (i := j * 10 + 6) (by omega) (.int .u64 bq)).set (c := w1.heap.size) (i := j * 10 + 7) (by omega) (.string ⟨#[]⟩)).set (c := w1.heap.size) (i := j * 10 + 8) (by omega) (.slice none 0 0)).set (c := w1.heap.size) (i := j * 10 + 9) (by omega) (.slice none 0 0)))
          clear AS FS BS2 hb01
          go_wp2
          go_roundw
          case rel => exact ⟨j + 1, by omega, by go_num, BN2, RN2, FN⟩
          case measure => simp [intOf]; omega
        · rename World => w2
          have hjge : ¬ (j : Int) < 998 + (r : Int) := by have := HKN.out; omega
          have hjk : j = K := by omega
          obtain ⟨As, hA1, hA2, hA3⟩ := (hjk ▸ FS.out : FlagL w1.heap.size w2 K K)
          rw [Nat.sub_self, List.replicate_zero, List.append_nil] at hA3
          have HL := Lib.hid hA1
          have AF := Lib.hid (flags_fit hA2 (by omega) w1.heap.size K)
          have AI2 := Lib.hid (flags_in (lc := K) hA2 hA3 ⟨by omega, by unfold maxLen; omega⟩)
          clear hjk hA1 hA2 hA3 FS hjlt hj
          -- the bytes
          obtain ⟨S, hS⟩ : ∃ S : Nat, (4094 + (r : Int)) = (S : Int) := ⟨4094 + r, by omega⟩
          obtain ⟨j0, hj0, hy0, hy1, hy2⟩ := info_at Tryd.info5
          obtain ⟨MB, hMB⟩ : ∃ MB, MB = madeCells (Value.int .u8 0).cells (S * 1) := ⟨_, rfl⟩
          have und8 : Tryd.prog.underlying 32 = some (.slice 5) := by kernel_rfl
          have hmkb : ∀ W : World, (Instr.makeSlice 32 (.int .i64 (4094 + (r : Int))) (.int .i64 (4094 + (r : Int)))).run Tryd.prog W = .ok (.slice (some ⟨W.heap.size, 0, none⟩) S S) (W.alloc (.cells MB 5)) := fun W => by
            have h := run_make (P := Tryd.prog) W 32 5 j0 _ und8 hj0 hy0 .i64 .i64 (4094 + (r : Int)) (4094 + (r : Int)) (by omega) (by omega) (by rw [hy2]; omega) (by omega)
            rw [hS, hy1, Int.toNat_natCast, ← hMB] at h
            rw [hS]
            exact h
          have hcells : ∀ i, i < S → (w2.alloc (.cells MB 5)).cell? ⟨w2.heap.size, 0 + i, none⟩ = some (.int .u8 ((List.replicate S (0 : Int)).getD i 0)) := fun i hi => by
            rw [cell_of_row _ _ (0 + i) _ _ _ (heap_alloc_new w2 _), hMB]
            have h1 : (madeCells (Value.int .u8 0).cells (S * 1)).toList = List.replicate (S * 1) (Value.int .u8 0) := toList_madeCells_one _ _
            have h2 : (madeCells (Value.int .u8 0).cells (S * 1))[0 + i]? = (List.replicate (S * 1) (Value.int .u8 0))[0 + i]? := by rw [← h1]; simp
            rw [h2, List.getElem?_replicate, if_pos (by omega)]
            simp [List.getD, hi]
          have hconv := run_convert_bytes_arg (P := Tryd.prog) (w2.alloc (.cells MB 5)) 32 5 und8 (by kernel_rfl) w2.heap.size 0 S S (List.replicate S 0) (by simp) hcells 9 (by kernel_rfl)
          obtain ⟨ZS, hZS⟩ : ∃ ZS, ZS = strOfNums (List.replicate S 0) := ⟨_, rfl⟩
          rw [← hZS] at hconv
          have hzsize : ZS.size = 4094 + r := by
            rw [hZS]
            have : (strOfNums (List.replicate S 0)).size = S := by simp [strOfNums, ByteArray.size]
            omega
          have HZ := Lib.hid hzsize
          have BT := bal (bal (Below.refl _ w2) (.cells MB 5)) (.cells #[.int .i64 6, .bool false, .int .u64 0, .int .u64 0, .int .u64 0, .int .u64 0, .int .u64 0, .string ZS, .slice none 0 0, .slice none 0 0] 31)
          have V3 := (HR.out.keep BS2.out).keep BT
          have A3 := AS.out.keep BT
          have T3 := row_new1 w2 (.cells MB 5) (.int .i64 6) (.bool false) (.int .u64 0) (.int .u64 0) (.int .u64 0) (.int .u64 0) (.int .u64 0) (.string ZS) (.slice none 0 0) (.slice none 0 0)
          have HI3 := Lib.hid ((HI.out.keep BS2.out).keep BT)
          have AI3 := Lib.hid (AI2.out.keep BT)
          have BW3 := Lib.hid (btr (btr BW.out BS2.out) BT)
          clear hcells hZS hzsize hMB BT
          clear hS
          by_cases hr2 : r ≤ 2
          · have hd1 : ¬ (16 : Int) < 14 + (r : Int) := by omega
            have hd2 : ¬ (1000 : Int) < 998 + (r : Int) := by omega
            have hd3 : ¬ (4096 : Int) < 4094 + (r : Int) := by omega
            go_upto_region 25 with (fail)
            go_name_world w3 hw3
            rw [hw3] at V3 A3 T3 HI3 AI3 BW3
            clear hw3 hconv hmkb
            have B3 := Lib.hid (Below.refl w3.heap.size w3)
            have KT : Hid (∀ W, Below w3.heap.size w3 W → Calls Tryd.prog 5 #[] W fun e w' => e = .returned (.bool true) ∧ Below W.heap.size W w') := fun W hb => told6_true W (tb_on HT.out (btr BW3.out hb))
            have KD : Hid (∀ W, Below w3.heap.size w3 W → Calls Tryd.prog 6 #[V10 kd false 0 0 0 0 0 ⟨#[]⟩ la kids.length lc ka keys.length kc] W fun e w' => e = .returned (.int .i64 (14 + (r : Int))) ∧ Below W.heap.size W w') := fun W hb => by
              have := vdepth (VT.mk ⟨kd, false, 0, 0, ⟨#[]⟩, la, lc, ka, kc, keys⟩ kids) (by rw [HFit.out.depth]; omega) W (HI3.out.keep hb)
              rw [HFit.out.depth] at this
              simp only [VT.val, VT.cells, VT.o_mk, VT.kids_mk, lb_zero] at this
              exact this
            have KN : Hid (∀ W, Below w3.heap.size w3 W → Calls Tryd.prog 8 #[V10 7 false 0 0 0 0 0 ⟨#[]⟩ (some ⟨w1.heap.size, 0, none⟩) K K none 0 0] W fun e w' => e = .returned (.int .i64 (998 + (r : Int) + 1)) ∧ Below W.heap.size W w') := fun W hb => by
              have := vnodes (VT.mk ⟨7, false, 0, 0, ⟨#[]⟩, some ⟨w1.heap.size, 0, none⟩, K, none, 0, []⟩ As) (by rw [AF.out.nodes]; have := HL.out; omega) W (AI3.out.keep hb)
              rw [AF.out.nodes, HL.out, HKN.out] at this
              simp only [VT.val, VT.cells, VT.o_mk, VT.kids_mk, lb_zero, HL.out, HKN.out, List.length_nil] at this
              rw [HKN.out]
              exact this
            have KM : Hid (∀ W, Below w3.heap.size w3 W → Calls Tryd.prog 7 #[V10 kd false 0 0 0 0 0 ⟨#[]⟩ la kids.length lc ka keys.length kc] W fun e w' => e = .returned (.int .i64 0) ∧ Below W.heap.size W w') := fun W hb => by
              have := vmay (VT.mk ⟨kd, false, 0, 0, ⟨#[]⟩, la, lc, ka, kc, keys⟩ kids) (by rw [HFit.out.nodes]; omega) W ⟨HI3.out.keep hb, tb_on HT.out (btr BW3.out hb), HFit.out.small⟩
              rw [HFit.out.may, if_neg (by omega)] at this
              simp only [VT.val, VT.cells, VT.o_mk, VT.kids_mk, lb_zero] at this
              exact this
            have KA : Hid (∀ W, Below w3.heap.size w3 W → Calls Tryd.prog 7 #[V10 7 false 0 0 0 0 0 ⟨#[]⟩ (some ⟨w1.heap.size, 0, none⟩) K K none 0 0] W fun e w' => e = .returned (.int .i64 0) ∧ Below W.heap.size W w') := fun W hb => by
              have := vmay (VT.mk ⟨7, false, 0, 0, ⟨#[]⟩, some ⟨w1.heap.size, 0, none⟩, K, none, 0, []⟩ As) (by rw [AF.out.nodes]; have := HL.out; omega) W ⟨AI3.out.keep hb, tb_on HT.out (btr BW3.out hb), AF.out.small⟩
              rw [AF.out.may, if_neg (by omega), decide_eq_false (by have := HL.out; have := HKN.out; omega)] at this
              simp only [VT.val, VT.cells, VT.o_mk, VT.kids_mk, lb_zero, HL.out, List.length_nil] at this
              exact this
            have KL : Hid (∀ W, Below w3.heap.size w3 W → Calls Tryd.prog 7 #[V10 6 false 0 0 0 0 0 ZS none 0 0 none 0 0] W fun e w' => e = .returned (.int .i64 0) ∧ Below W.heap.size W w') := fun W hb => by
              have hzs := HZ.out
              have hF := bytesT_fit ZS (by omega)
              have := vmay (bytesT ZS) (by rw [hF.nodes]; omega) W ⟨bytesT_in ZS (by omega) W, tb_on HT.out (btr BW3.out hb), hF.small⟩
              rw [hF.may, if_neg (by omega), decide_eq_false (by omega)] at this
              simp only [bytesT, VT.val, VT.cells, VT.o_mk, VT.kids_mk, lb_zero, List.length_nil] at this
              exact this
            go_wp2_with fail
            ((with_reducible refine (KT.out _ B3.out).mono ?_); rintro e w4 ⟨rfl, hb⟩)
            have B4 := Lib.hid (btr B3.out hb)
            have V4 := Row10.keep hb V3
            have A4 := Row10.keep hb A3
            have T4 := Row10.keep hb T3
            clear hb
            obtain ⟨p0, p1, p2, p3, p4, p5, p6, p7, p8, p9⟩ := V4.parts
            obtain ⟨a0, a1, a2, a3, a4, a5, a6, a7, a8, a9⟩ := A4.parts
            obtain ⟨t0, t1, t2, t3, t4, t5, t6, t7, t8, t9⟩ := T4.parts
            go_wp2_with fail
            ((with_reducible refine (KD.out _ B4.out).mono ?_); rintro e w5 ⟨rfl, hb⟩)
            have B5 := Lib.hid (btr B4.out hb); have V5 := Row10.keep hb V4; have A5 := Row10.keep hb A4; have T5 := Row10.keep hb T4
            clear p0 p1 p2 p3 p4 p5 p6 p7 p8 p9 a0 a1 a2 a3 a4 a5 a6 a7 a8 a9 t0 t1 t2 t3 t4 t5 t6 t7 t8 t9
            clear hb V4 A4 T4
            obtain ⟨p0, p1, p2, p3, p4, p5, p6, p7, p8, p9⟩ := V5.parts
            obtain ⟨a0, a1, a2, a3, a4, a5, a6, a7, a8, a9⟩ := A5.parts
            obtain ⟨t0, t1, t2, t3, t4, t5, t6, t7, t8, t9⟩ := T5.parts
            go_wp2_with fail
            ((with_reducible refine (KM.out _ B5.out).mono ?_); rintro e w6 ⟨rfl, hb⟩)
            have B6 := Lib.hid (btr B5.out hb); have A6 := Row10.keep hb A5; have T6 := Row10.keep hb T5
            clear p0 p1 p2 p3 p4 p5 p6 p7 p8 p9 a0 a1 a2 a3 a4 a5 a6 a7 a8 a9 t0 t1 t2 t3 t4 t5 t6 t7 t8 t9
            clear hb V5 A5 T5
            obtain ⟨a0, a1, a2, a3, a4, a5, a6, a7, a8, a9⟩ := A6.parts
            obtain ⟨t0, t1, t2, t3, t4, t5, t6, t7, t8, t9⟩ := T6.parts
            go_wp2_with fail
            ((with_reducible refine (KA.out _ B6.out).mono ?_); rintro e w7 ⟨rfl, hb⟩)
            have B7 := Lib.hid (btr B6.out hb); have A7 := Row10.keep hb A6; have T7 := Row10.keep hb T6
            clear a0 a1 a2 a3 a4 a5 a6 a7 a8 a9 t0 t1 t2 t3 t4 t5 t6 t7 t8 t9
            clear hb A6 T6
            obtain ⟨a0, a1, a2, a3, a4, a5, a6, a7, a8, a9⟩ := A7.parts
            obtain ⟨t0, t1, t2, t3, t4, t5, t6, t7, t8, t9⟩ := T7.parts
            go_wp2_with fail
            ((with_reducible refine (KN.out _ B7.out).mono ?_); rintro e w8 ⟨rfl, hb⟩)
            have B8 := Lib.hid (btr B7.out hb); have T8 := Row10.keep hb T7
            clear a0 a1 a2 a3 a4 a5 a6 a7 a8 a9 t0 t1 t2 t3 t4 t5 t6 t7 t8 t9
            clear hb A7 T7
            obtain ⟨t0, t1, t2, t3, t4, t5, t6, t7, t8, t9⟩ := T8.parts
            go_wp2_with fail
            ((with_reducible refine (KL.out _ B8.out).mono ?_); rintro e w9 ⟨rfl, hb⟩)
            have B9 := Lib.hid (btr B8.out hb)
            clear hb
            go_wp2
            go_ret
            exact ⟨rfl, btr BW3.out B9.out⟩
          · have hd1 : (16 : Int) < 14 + (r : Int) := by omega
            have hd2 : (1000 : Int) < 998 + (r : Int) := by omega
            have hd3 : (4096 : Int) < 4094 + (r : Int) := by omega
            go_upto_region 25 with (fail)
            go_name_world w3 hw3
            rw [hw3] at V3 A3 T3 HI3 AI3 BW3
            clear hw3 hconv hmkb
            have B3 := Lib.hid (Below.refl w3.heap.size w3)
            have KT : Hid (∀ W, Below w3.heap.size w3 W → Calls Tryd.prog 5 #[] W fun e w' => e = .returned (.bool true) ∧ Below W.heap.size W w') := fun W hb => told6_true W (tb_on HT.out (btr BW3.out hb))
            have KD : Hid (∀ W, Below w3.heap.size w3 W → Calls Tryd.prog 6 #[V10 kd false 0 0 0 0 0 ⟨#[]⟩ la kids.length lc ka keys.length kc] W fun e w' => e = .returned (.int .i64 (14 + (r : Int))) ∧ Below W.heap.size W w') := fun W hb => by
              have := vdepth (VT.mk ⟨kd, false, 0, 0, ⟨#[]⟩, la, lc, ka, kc, keys⟩ kids) (by rw [HFit.out.depth]; omega) W (HI3.out.keep hb)
              rw [HFit.out.depth] at this
              simp only [VT.val, VT.cells, VT.o_mk, VT.kids_mk, lb_zero] at this
              exact this
            have KN : Hid (∀ W, Below w3.heap.size w3 W → Calls Tryd.prog 8 #[V10 7 false 0 0 0 0 0 ⟨#[]⟩ (some ⟨w1.heap.size, 0, none⟩) K K none 0 0] W fun e w' => e = .returned (.int .i64 (998 + (r : Int) + 1)) ∧ Below W.heap.size W w') := fun W hb => by
              have := vnodes (VT.mk ⟨7, false, 0, 0, ⟨#[]⟩, some ⟨w1.heap.size, 0, none⟩, K, none, 0, []⟩ As) (by rw [AF.out.nodes]; have := HL.out; omega) W (AI3.out.keep hb)
              rw [AF.out.nodes, HL.out, HKN.out] at this
              simp only [VT.val, VT.cells, VT.o_mk, VT.kids_mk, lb_zero, HL.out, HKN.out, List.length_nil] at this
              rw [HKN.out]
              exact this
            have KM : Hid (∀ W, Below w3.heap.size w3 W → Calls Tryd.prog 7 #[V10 kd false 0 0 0 0 0 ⟨#[]⟩ la kids.length lc ka keys.length kc] W fun e w' => e = .returned (.int .i64 4) ∧ Below W.heap.size W w') := fun W hb => by
              have := vmay (VT.mk ⟨kd, false, 0, 0, ⟨#[]⟩, la, lc, ka, kc, keys⟩ kids) (by rw [HFit.out.nodes]; omega) W ⟨HI3.out.keep hb, tb_on HT.out (btr BW3.out hb), HFit.out.small⟩
              rw [HFit.out.may, if_pos (by omega)] at this
              simp only [VT.val, VT.cells, VT.o_mk, VT.kids_mk, lb_zero] at this
              exact this
            have KA : Hid (∀ W, Below w3.heap.size w3 W → Calls Tryd.prog 7 #[V10 7 false 0 0 0 0 0 ⟨#[]⟩ (some ⟨w1.heap.size, 0, none⟩) K K none 0 0] W fun e w' => e = .returned (.int .i64 8) ∧ Below W.heap.size W w') := fun W hb => by
              have := vmay (VT.mk ⟨7, false, 0, 0, ⟨#[]⟩, some ⟨w1.heap.size, 0, none⟩, K, none, 0, []⟩ As) (by rw [AF.out.nodes]; have := HL.out; omega) W ⟨AI3.out.keep hb, tb_on HT.out (btr BW3.out hb), AF.out.small⟩
              rw [AF.out.may, if_neg (by omega), decide_eq_true (by have := HL.out; have := HKN.out; omega)] at this
              simp only [VT.val, VT.cells, VT.o_mk, VT.kids_mk, lb_zero, HL.out, List.length_nil] at this
              exact this
            have KL : Hid (∀ W, Below w3.heap.size w3 W → Calls Tryd.prog 7 #[V10 6 false 0 0 0 0 0 ZS none 0 0 none 0 0] W fun e w' => e = .returned (.int .i64 8) ∧ Below W.heap.size W w') := fun W hb => by
              have hzs := HZ.out
              have hF := bytesT_fit ZS (by omega)
              have := vmay (bytesT ZS) (by rw [hF.nodes]; omega) W ⟨bytesT_in ZS (by omega) W, tb_on HT.out (btr BW3.out hb), hF.small⟩
              rw [hF.may, if_neg (by omega), decide_eq_true (by omega)] at this
              simp only [bytesT, VT.val, VT.cells, VT.o_mk, VT.kids_mk, lb_zero, List.length_nil] at this
              exact this
            go_wp2_with fail
            ((with_reducible refine (KT.out _ B3.out).mono ?_); rintro e w4 ⟨rfl, hb⟩)
            have B4 := Lib.hid (btr B3.out hb)
            have V4 := Row10.keep hb V3
            have A4 := Row10.keep hb A3
            have T4 := Row10.keep hb T3
            clear hb
            obtain ⟨p0, p1, p2, p3, p4, p5, p6, p7, p8, p9⟩ := V4.parts
            obtain ⟨a0, a1, a2, a3, a4, a5, a6, a7, a8, a9⟩ := A4.parts
            obtain ⟨t0, t1, t2, t3, t4, t5, t6, t7, t8, t9⟩ := T4.parts
            go_wp2_with fail
            ((with_reducible refine (KD.out _ B4.out).mono ?_); rintro e w5 ⟨rfl, hb⟩)
            have B5 := Lib.hid (btr B4.out hb); have V5 := Row10.keep hb V4; have A5 := Row10.keep hb A4; have T5 := Row10.keep hb T4
            clear p0 p1 p2 p3 p4 p5 p6 p7 p8 p9 a0 a1 a2 a3 a4 a5 a6 a7 a8 a9 t0 t1 t2 t3 t4 t5 t6 t7 t8 t9
            clear hb V4 A4 T4
            obtain ⟨p0, p1, p2, p3, p4, p5, p6, p7, p8, p9⟩ := V5.parts
            obtain ⟨a0, a1, a2, a3, a4, a5, a6, a7, a8, a9⟩ := A5.parts
            obtain ⟨t0, t1, t2, t3, t4, t5, t6, t7, t8, t9⟩ := T5.parts
            go_wp2_with fail
            ((with_reducible refine (KM.out _ B5.out).mono ?_); rintro e w6 ⟨rfl, hb⟩)
            have B6 := Lib.hid (btr B5.out hb); have A6 := Row10.keep hb A5; have T6 := Row10.keep hb T5
            clear p0 p1 p2 p3 p4 p5 p6 p7 p8 p9 a0 a1 a2 a3 a4 a5 a6 a7 a8 a9 t0 t1 t2 t3 t4 t5 t6 t7 t8 t9
            clear hb V5 A5 T5
            obtain ⟨a0, a1, a2, a3, a4, a5, a6, a7, a8, a9⟩ := A6.parts
            obtain ⟨t0, t1, t2, t3, t4, t5, t6, t7, t8, t9⟩ := T6.parts
            go_wp2_with fail
            ((with_reducible refine (KA.out _ B6.out).mono ?_); rintro e w7 ⟨rfl, hb⟩)
            have B7 := Lib.hid (btr B6.out hb); have A7 := Row10.keep hb A6; have T7 := Row10.keep hb T6
            clear a0 a1 a2 a3 a4 a5 a6 a7 a8 a9 t0 t1 t2 t3 t4 t5 t6 t7 t8 t9
            clear hb A6 T6
            obtain ⟨a0, a1, a2, a3, a4, a5, a6, a7, a8, a9⟩ := A7.parts
            obtain ⟨t0, t1, t2, t3, t4, t5, t6, t7, t8, t9⟩ := T7.parts
            go_wp2_with fail
            ((with_reducible refine (KN.out _ B7.out).mono ?_); rintro e w8 ⟨rfl, hb⟩)
            have B8 := Lib.hid (btr B7.out hb); have T8 := Row10.keep hb T7
            clear a0 a1 a2 a3 a4 a5 a6 a7 a8 a9 t0 t1 t2 t3 t4 t5 t6 t7 t8 t9
            clear hb A7 T7
            obtain ⟨t0, t1, t2, t3, t4, t5, t6, t7, t8, t9⟩ := T8.parts
            go_wp2_with fail
            ((with_reducible refine (KL.out _ B8.out).mono ?_); rintro e w9 ⟨rfl, hb⟩)
            have B9 := Lib.hid (btr B8.out hb)
            clear hb
            go_wp2
            go_ret
            exact ⟨rfl, btr BW3.out B9.out⟩
/-- The law, for any number, as arrays or maps. -/
theorem bounds_any (n : Int) (maps : Bool) (w : World) (hT : Tb w) :
    Calls Tryd.prog 3 #[.int .i64 n, .bool maps] w fun e w' => e = .returned (.bool true) ∧ Below w.heap.size w w' := by
  have hu : 0 ≤ IntKind.u64.wrap n := by simp only [IntKind.wrap, IntKind.signed, IntKind.bits]; simp; omega
  have ht : 0 ≤ (IntKind.u64.wrap n).tmod 5 ∧ (IntKind.u64.wrap n).tmod 5 < 5 := by
    rw [Int.tmod_eq_emod_of_nonneg hu]
    exact ⟨Int.emod_nonneg _ (by omega), Int.emod_lt_of_pos _ (by omega)⟩
  have hw : IntKind.i64.wrap ((IntKind.u64.wrap n).tmod 5) = (IntKind.u64.wrap n).tmod 5 := IntWalk.i64_in _ (by omega)
  exact bounds_core n maps ((IntKind.u64.wrap n).tmod 5).toNat (by rw [hw]; omega) (by omega) w hT
end Go.Proofs.YtjdogiehcgfmjaaDoor
end
