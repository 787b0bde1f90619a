/-
  ValFrom ValSlices, one behind the other: a claim holds at most 60 files.
-/
import Derived.Test.YtjdogiehcgfmjaaDoorOwnRow
import Derived.Test.YtjdogiehcgfmjaaDoorValSameT
section
namespace Go.Proofs.YtjdogiehcgfmjaaDoor
open Go.RowKit Go.Shelf

/-- A value lies in memory from a block on, whatever of it is not empty, and all in it. -/
inductive VT.From (lo : Nat) (w : World) : VT → Prop
  | mk (o : Own) (kids : List VT) (wf : o.WF kids.length)
    (hk : ∃ b off, lo ≤ b ∧ (0 < o.keys.length → o.ka = some ⟨b, off, none⟩) ∧ ∀ (i : Nat) (s : ByteArray), o.keys[i]? = some s → w.cell? ⟨b, off + i, none⟩ = some (.string s))
    (hl : ∃ b off, lo ≤ b ∧ (0 < kids.length → o.la = some ⟨b, off, none⟩) ∧ ∀ (i : Nat) (t : VT), kids[i]? = some t → Cells10 w b (off + i * 10) t)
    (hi : ∀ (i : Nat) (t : VT), kids[i]? = some t → VT.From lo w t) : VT.From lo w (.mk o kids)

theorem VT.From.kid {lo : Nat} {w : World} {T : VT} (h : T.From lo w) {i : Nat} {t : VT} (hi : T.kids[i]? = some t) : t.From lo w := by cases h; rename_i a b c d; exact d i t hi
theorem VT.From.ins {lo : Nat} {w : World} : ∀ {T : VT}, T.From lo w → T.In w := by
  intro T
  induction T using VT.ind with
  | h o kids ih =>
    intro h
    cases h with
    | mk _ _ wf hk hl hi =>
      obtain ⟨b, off, _, h1, h2⟩ := hk
      obtain ⟨b', off', _, h3, h4⟩ := hl
      exact .mk o kids wf ⟨b, off, h1, h2⟩ ⟨b', off', h3, h4⟩ (fun i t ht => ih t (List.mem_of_getElem? ht) (hi i t ht))
/-- Blocks from a place on that were there are as they were. -/
def Kept (lo : Nat) (w w' : World) : Prop := ∀ b, lo ≤ b → b < w.heap.size → w'.heap[b]? = w.heap[b]?
theorem kept_cell {lo : Nat} {w w' : World} (hk : Kept lo w w') {b p : Nat} {v : Value} (hb : lo ≤ b) (h : w.cell? ⟨b, p, none⟩ = some v) : w'.cell? ⟨b, p, none⟩ = some v :=
  (World.cell?_of_block (hk b hb (cell_lt h))).trans h
theorem VT.From.kept {lo : Nat} {w w' : World} (hk : Kept lo w w') : ∀ {T : VT}, T.From lo w → T.From lo w' := by
  intro T
  induction T using VT.ind with
  | h o kids ih =>
    intro h
    cases h with
    | mk _ _ wf hk' hl hi =>
      obtain ⟨b, off, h0, h1, h2⟩ := hk'
      obtain ⟨b', off', h5, h3, h4⟩ := hl
      exact .mk o kids wf ⟨b, off, h0, h1, fun i s hs => kept_cell hk h0 (h2 i s hs)⟩ ⟨b', off', h5, h3, fun i t ht j u hu => kept_cell hk h5 (h4 i t ht j u hu)⟩ (fun i t ht => ih t (List.mem_of_getElem? ht) (hi i t ht))
theorem VT.From.mono {lo lo' : Nat} {w : World} (hl : lo' ≤ lo) : ∀ {T : VT}, T.From lo w → T.From lo' w := by
  intro T
  induction T using VT.ind with
  | h o kids ih =>
    intro h
    cases h with
    | mk _ _ wf hk' hl' hi =>
      obtain ⟨b, off, h0, h1, h2⟩ := hk'
      obtain ⟨b', off', h5, h3, h4⟩ := hl'
      exact .mk o kids wf ⟨b, off, Nat.le_trans hl h0, h1, h2⟩ ⟨b', off', Nat.le_trans hl h5, h3, h4⟩ (fun i t ht => ih t (List.mem_of_getElem? ht) (hi i t ht))
theorem kept_below {lo : Nat} {w w' : World} (hb : Below w.heap.size w w') : Kept lo w w' := fun b _ h => hb.block b h
theorem kept_set {lo g i : Nat} {w : World} (h : g < lo) (u : Value) : Kept lo w (w.setCell ⟨g, i, none⟩ u) := fun b hb _ => Below.heap_setCell w ⟨g, i, none⟩ u b (by show b ≠ g; omega)
theorem Kept.trans {lo : Nat} {a b c : World} (h : Kept lo a b) (hs : a.heap.size ≤ b.heap.size) (k : Kept lo b c) : Kept lo a c := fun j h1 h2 => (k j h1 (by omega)).trans (h j h1 h2)

/-- A block whose first cells are these. -/
def Cur (W : World) (g : Nat) (e : TypeId) (xs : List Value) : Prop := ∃ cur : Array Value, W.heap[g]? = some (.cells cur e (0, 0)) ∧ ∀ (j : Nat) (u : Value), xs[j]? = some u → cur[j]? = some u
theorem Cur.lt {W : World} {g : Nat} {e : TypeId} {xs : List Value} (h : Cur W g e xs) : g < W.heap.size := by
  obtain ⟨cur, h1, _⟩ := h
  exact (Array.getElem?_eq_some_iff.1 h1).1
theorem Cur.keep {W W' : World} {g : Nat} {e : TypeId} {xs : List Value} (h : Cur W g e xs) (hb : Below W.heap.size W W') : Cur W' g e xs := by
  have hl := h.lt
  obtain ⟨cur, h1, h2⟩ := h
  exact ⟨cur, (hb.block g hl).trans h1, h2⟩
theorem Cur.cell {W : World} {g : Nat} {e : TypeId} {xs : List Value} (h : Cur W g e xs) {j : Nat} {u : Value} (hj : xs[j]? = some u) : W.cell? ⟨g, j, none⟩ = some u := by
  obtain ⟨cur, h1, h2⟩ := h
  rw [cell_of_row W g j cur e (0, 0) h1]
  exact h2 j u hj
theorem Cur.free {W : World} {g : Nat} {e : TypeId} {xs : List Value} (h : Cur W g e xs) (j : Nat) : W.frozen? ⟨g, j, none⟩ = false := by
  obtain ⟨cur, h1, _⟩ := h
  exact frozen_of_row W g j cur e h1
theorem Cur.set {W : World} {g : Nat} {e : TypeId} {xs : List Value} (h : Cur W g e xs) (i : Nat) (v : Value) : Cur (W.setCell ⟨g, i, none⟩ v) g e (xs.set i v) := by
  obtain ⟨cur, h1, h2⟩ := h
  refine ⟨cur.setIfInBounds i v, by have := heap_setCell_same W g i cur e v h1; simpa using this, fun j u hu => ?_⟩
  rw [Array.getElem?_setIfInBounds]
  rw [List.getElem?_set] at hu
  by_cases hij : i = j
  · subst hij
    rw [if_pos rfl] at hu ⊢
    by_cases hl : i < xs.length
    · have := h2 i _ (List.getElem?_eq_getElem hl)
      have hc := (Array.getElem?_eq_some_iff.1 this).1
      rw [if_pos hl] at hu
      rw [if_pos hc]
      exact hu
    · rw [if_neg hl] at hu; cases hu
  · rw [if_neg hij] at hu ⊢
    exact h2 j u hu
theorem Cur.other {W : World} {g : Nat} {e : TypeId} {xs : List Value} (h : Cur W g e xs) {b i : Nat} (hne : g ≠ b) (u : Value) : Cur (W.setCell ⟨b, i, none⟩ u) g e xs := by
  obtain ⟨cur, h1, h2⟩ := h
  exact ⟨cur, (Below.heap_setCell W ⟨b, i, none⟩ u g hne).trans h1, h2⟩
theorem cur_of_own {W : World} {base : Nat} {e : TypeId} {size g n c m : Nat} {xs : List Value} (h : W.ownsRow base e size (.slice (some ⟨g, 0, none⟩) n c) m xs) : Cur W g e xs ∧ n ≤ c ∧ c ≤ maxLen ∧ base ≤ g := by
  obtain ⟨h1, h2⟩ := h
  rcases h2 with ⟨h3, _⟩ | ⟨g', cap, cur, h3, h4, h5, h6, h7, h8, h9⟩
  · cases h3
  · cases h3
    refine ⟨⟨cur, h5, fun j u hu => ?_⟩, h6, h7, h4⟩
    rw [← h9, List.getElem?_take] at hu
    split at hu
    · simpa using hu
    · cases hu
theorem set_self {xs : List Value} {i : Nat} {u : Value} (h : xs[i]? = some u) : xs.set i u = xs := by
  obtain ⟨hl, rfl⟩ := List.getElem?_eq_some_iff.1 h
  exact List.set_getElem_self hl
theorem newsV_append (a b : List VT) : newsV (a ++ b) = newsV a ++ newsV b := by unfold newsV; rw [List.flatMap_append]
theorem newsV_cons (t : VT) (b : List VT) : newsV (t :: b) = t.cells ++ newsV b := by unfold newsV; rw [List.flatMap_cons]
/-- Ten stores put one value in another's place. -/
theorem set_ten {a b : List VT} {t : VT} {kd : Int} {g : Bool} {x : Nat} {bits : Int} {s : ByteArray} {la : Option Addr} {lc : Nat} {ka : Option Addr} {kc : Nat} {ks : List ByteArray} {l : List VT} {k : Nat} (hk : a.length = k) :
    ((((((((((newsV (a ++ t :: b)).set (k * 10) (.int .i64 kd)).set (k * 10 + 1) (.bool g)).set (k * 10 + 2) (.int .u64 (lb 0 x))).set (k * 10 + 3) (.int .u64 (lb 1 x))).set (k * 10 + 4) (.int .u64 (lb 2 x))).set (k * 10 + 5) (.int .u64 (lb 3 x))).set (k * 10 + 6) (.int .u64 bits)).set (k * 10 + 7) (.string s)).set (k * 10 + 8) (.slice la l.length lc)).set (k * 10 + 9) (.slice ka ks.length kc)
      = newsV (a ++ (VT.mk ⟨kd, g, x, bits, s, la, lc, ka, kc, ks⟩ l) :: b) := by
  have hl : (newsV a).length = k * 10 := by rw [newsV_length, hk]
  rw [newsV_append, newsV_append, newsV_cons, newsV_cons]
  have st : ∀ (j : Nat) (v : Value) (r : List Value), (newsV a ++ r).set (k * 10 + j) v = newsV a ++ r.set j v := by
    intro j v r
    rw [List.set_append_right _ _ (by omega), hl]
    congr 2; omega
  have st0 : ∀ (v : Value) (r : List Value), (newsV a ++ r).set (k * 10) v = newsV a ++ r.set 0 v := fun v r => st 0 v r
  rw [st0, st, st, st, st, st, st, st, st, st]
  rfl
theorem newsV_cell {l : List VT} {k : Nat} {t : VT} (h : l[k]? = some t) {j : Nat} {u : Value} (hj : t.cells[j]? = some u) : (newsV l)[k * 10 + j]? = some u := by
  have hlt := (List.getElem?_eq_some_iff.1 h).1
  have hj10 : j < 10 := by have := (List.getElem?_eq_some_iff.1 hj).1; rw [VT.cells_length] at this; exact this
  have e : l = l.take k ++ t :: l.drop (k + 1) := by
    obtain ⟨_, h2⟩ := List.getElem?_eq_some_iff.1 h
    rw [← h2, ← List.drop_eq_getElem_cons hlt, List.take_append_drop]
  rw [e, newsV_append, newsV_cons]
  have hl : (newsV (l.take k)).length = k * 10 := by rw [newsV_length, List.length_take]; congr 1; omega
  rw [List.getElem?_append_right (by omega), hl, show k * 10 + j - k * 10 = j by omega, List.getElem?_append_left (by rw [VT.cells_length]; exact hj10)]
  exact hj
end Go.Proofs.YtjdogiehcgfmjaaDoor
end
section
namespace Go.Proofs.YtjdogiehcgfmjaaDoor
open Go.RowKit Go.Shelf

/-- The place of the first of these names that is such; -1. -/
def idxN (keys : List ByteArray) (s : ByteArray) : Int :=
  match keys.findIdx? (fun k => s.toList == k.toList) with
  | some i => (i : Int)
  | none => -1
theorem idxN_hit {keys : List ByteArray} {s k : ByteArray} {i : Nat} (hk : keys[i]? = some k) (he : (s.toList == k.toList) = true) (hno : ∀ j < i, ∀ k', keys[j]? = some k' → (s.toList == k'.toList) = false) : idxN keys s = i := by
  obtain ⟨hl, rfl⟩ := List.getElem?_eq_some_iff.1 hk
  have : keys.findIdx? (fun k => s.toList == k.toList) = some i := by
    rw [List.findIdx?_eq_some_iff_getElem]
    exact ⟨hl, he, fun j hj => by rw [hno j hj keys[j] (List.getElem?_eq_getElem (by omega))]; simp⟩
  unfold idxN
  rw [this]
theorem idxN_none {keys : List ByteArray} {s : ByteArray} (hno : ∀ (j : Nat) (k' : ByteArray), keys[j]? = some k' → (s.toList == k'.toList) = false) : idxN keys s = -1 := by
  have : keys.findIdx? (fun k => s.toList == k.toList) = none := by
    rw [List.findIdx?_eq_none_iff]
    intro k hk
    obtain ⟨j, hj⟩ := List.getElem?_of_mem hk
    exact hno j k hj
  unfold idxN
  rw [this]
theorem ret_idx {a b : Int} (h : a = b) : Ending.returned (.int .i64 a) = .returned (.int .i64 b) := by rw [h]

set_option maxRecDepth 100000 in
set_option maxHeartbeats 1000000 in
theorem kfind (ka : Option Addr) (kc : Nat) (keys : List ByteArray) (kb koff : Nat) (s : ByteArray) (w : World) (hK : KeysL w ka keys kb koff) :
    Calls Tryd.prog 21 #[.slice ka keys.length kc, .string s] w fun e w' => e = .returned (.int .i64 (idxN keys s)) ∧ w = w' := by
  have hn := hK.len
  have HK := Lib.hid hK
  clear hK
  go_enter Tryd.func21, Tryd.ntmps21
  go_wp2
  go_loopw [5, 8] (fun _ i wr => ∃ k : Nat, k ≤ keys.length ∧ i = .int .i64 k ∧ Hid (wr = w) ∧ Hid (∀ j < k, ∀ k', keys[j]? = some k' → (s.toList == k'.toList) = false)) (fun _ i _ => keys.length - (intOf i).toNat)
  case atStart => exact ⟨0, Nat.zero_le _, rfl, (show Hid _ from rfl), (show Hid _ from fun j hj => absurd hj (by omega))⟩
  case round =>
    obtain ⟨k, hk, rfl, WR, AN⟩ := hrel
    have hwr := WR.out
    by_cases hlt : k < keys.length
    · obtain ⟨t, ht, hm⟩ := key_at hlt
      have hr := HK.out.cells k t ht
      obtain rfl : ka = some ⟨kb, koff, none⟩ := HK.out.ka (by omega)
      have HHT := Lib.hid ht
      rw [← hwr] at hr
      clear hwr ht
      cases hq : (s.toList == t.toList) with
      | true =>
        have HF : Hid (idxN keys s = k) := idxN_hit HHT.out hq AN.out
        go_wp2
        go_ret
        exact ⟨ret_idx HF.out.symm, WR.out.symm⟩
      | false =>
        have HQ := Lib.hid hq
        go_wp2
        go_roundw
        case rel =>
          refine ⟨k + 1, by omega, by go_num, WR, (show Hid _ from fun j hj k' hk' => ?_)⟩
          by_cases hjk : j = k
          · subst hjk
            rw [HHT.out] at hk'
            cases hk'
            exact HQ.out
          · exact AN.out j (by omega) k' hk'
        case measure => simp [intOf]; omega
    · have hge : ¬ (k : Int) < (keys.length : Int) := by omega
      have HF : Hid (idxN keys s = -1) := idxN_none fun j k' hj => AN.out j (by have := (List.getElem?_eq_some_iff.1 hj).1; omega) k' hj
      clear hwr
      go_wp2
      go_ret
      exact ⟨ret_idx HF.out.symm, WR.out.symm⟩

theorem eql_nil (t e : TypeId) (h : Tryd.prog.underlying t = some (.slice e)) (a : Option Addr) (n c : Nat) (W : World) : (binOp .eql t (.slice a n c) (.slice none 0 0)).run Tryd.prog W = .ok (.bool a.isNone) W := by
  simp only [binOp]
  simp [Op.equal, Op.maxDepth, run_equalIn_slice_nil W 9999 t e a n c h]
/-- A slice's copy in a block of its own. -/
def CloneS (w : World) (t : TypeId) (n : Nat) (xs : List Value) (E : Ending) (w' : World) : Prop :=
  ∃ (a' : Option Addr) (c' g : Nat), E = .returned (.slice a' n c') ∧ w.heap.size ≤ g ∧ (0 < n → a' = some ⟨g, 0, none⟩ ∧ Cur w' g t xs) ∧ n ≤ c' ∧ c' ≤ maxLen ∧ Below w.heap.size w w'
set_option maxRecDepth 100000 in
set_option maxHeartbeats 1000000 in
theorem kclone (ka : Option Addr) (kc : Nat) (keys : List ByteArray) (kb koff : Nat) (w : World) (hK : KeysL w ka keys kb koff) (h4 : keys.length ≤ 1000) :
    Calls Tryd.prog 45 #[.slice ka keys.length kc] w fun e w' => CloneS w 9 keys.length (keys.map Value.string) e w' := by
  obtain ⟨i0, hi0, hz0, hz1, hz2⟩ := info_at info_str
  cases ka with
  | none =>
    have h0 : keys.length = 0 := by
      rcases Nat.eq_zero_or_pos keys.length with h | h
      · exact h
      · exact absurd (hK.ka h) (by simp)
    obtain rfl : keys = [] := List.eq_nil_of_length_eq_zero h0
    clear hK h0
    have hE := eql_nil 29 _ und_strs
    go_enter Tryd.func45, Tryd.ntmps45
    go_wp2
    go_ret
    exact ⟨_, _, w.heap.size, rfl, Nat.le_refl _, fun h => absurd h (by simp), by simp, by unfold maxLen; omega, Below.refl _ _⟩
  | some a =>
    rcases Nat.eq_zero_or_pos keys.length with h0 | h0
    · obtain rfl : keys = [] := List.eq_nil_of_length_eq_zero h0
      clear hK h0
      have hE := eql_nil 29 _ und_strs
      go_enter Tryd.func45, Tryd.ntmps45
      go_wp2
      go_ret
      exact ⟨_, _, w.heap.size, rfl, Nat.le_refl _, fun h => absurd h (by simp), by simp, by unfold maxLen; omega, bal (Below.refl _ _) _⟩
    · obtain rfl : a = ⟨kb, koff, none⟩ := by have := hK.ka h0; cases this; rfl
      have HN := Lib.hid (fun o => keys_news (KeysL.keep hK (bal (Below.refl _ w) o)))
      clear hK
      have hE := eql_nil 29 _ und_strs
      go_enter Tryd.func45, Tryd.ntmps45
      go_wp2_with (first
        | (at_builtin; refine wpList_append_lies _ rfl (.tmp 5) (.tmp 6) 29 rfl w.heap.size 9 i0 (.string ⟨#[]⟩) 1 16 und_strs hi0 hz0 hz1 hz2 rfl (by decide) _ 0 [] rfl (own_empty6 _ _ _ _ rfl) ⟨kb, koff, none⟩ keys.length kc (keys.map Value.string) rfl (by simp) (HN.out _) (one_strs keys) h0 (by unfold maxLen; omega) (by omega) (by simp) _ rfl ?_
           intro gb cap w3 hown hgrow _ _
           simp only [Nat.zero_add, List.nil_append] at hown
           have hg3 : World.grownBy _ w3 (some w.heap.size) := hgrow
           have B3 := Lib.hid (Below.grown (bal (Below.refl _ w) (.cells #[] 9)) hg3 (bal (Below.refl _ w) (.cells #[] 9)).size (by intro q hq; cases hq; exact Nat.le_refl _))
           have OW := Lib.hid hown
           clear hgrow hg3 HN hown)
        | fail)
      go_ret
      obtain ⟨c1, c2, c3, c4⟩ := cur_of_own OW.out
      exact ⟨_, _, gb, rfl, c4, fun _ => ⟨rfl, c1⟩, c2, c3, B3.out⟩
set_option maxRecDepth 100000 in
set_option maxHeartbeats 1000000 in
theorem lclone (la : Option Addr) (lc : Nat) (kids : List VT) (bb off : Nat) (w : World) (hK : Kids w la kids bb off) (h4 : kids.length ≤ 1000) :
    Calls Tryd.prog 46 #[.slice la kids.length lc] w fun e w' => CloneS w 31 kids.length (newsV kids) e w' := by
  obtain ⟨i0, hi0, hz0, hz1, hz2⟩ := info_at info_val
  cases la with
  | none =>
    have h0 : kids.length = 0 := by
      rcases Nat.eq_zero_or_pos kids.length with h | h
      · exact h
      · exact absurd (hK.la h) (by simp)
    obtain rfl : kids = [] := List.eq_nil_of_length_eq_zero h0
    clear hK h0
    have hE := eql_nil 28 _ und_vals
    go_enter Tryd.func46, Tryd.ntmps46
    go_wp2
    go_ret
    exact ⟨_, _, w.heap.size, rfl, Nat.le_refl _, fun h => absurd h (by simp), by simp, by unfold maxLen; omega, Below.refl _ _⟩
  | some a =>
    rcases Nat.eq_zero_or_pos kids.length with h0 | h0
    · obtain rfl : kids = [] := List.eq_nil_of_length_eq_zero h0
      clear hK h0
      have hE := eql_nil 28 _ und_vals
      go_enter Tryd.func46, Tryd.ntmps46
      go_wp2
      go_ret
      exact ⟨_, _, w.heap.size, rfl, Nat.le_refl _, fun h => absurd h (by simp), by simp, by unfold maxLen; omega, bal (Below.refl _ _) _⟩
    · obtain rfl : a = ⟨bb, off, none⟩ := by have := hK.la h0; cases this; rfl
      have HN := Lib.hid (fun o => kids_news (Kids.keep hK (bal (Below.refl _ w) o)))
      clear hK
      have hE := eql_nil 28 _ und_vals
      go_enter Tryd.func46, Tryd.ntmps46
      go_wp2_with (first
        | (at_builtin; refine wpList_append_lies _ rfl (.tmp 5) (.tmp 6) 28 rfl w.heap.size 31 i0 (V10 0 false 0 0 0 0 0 ⟨#[]⟩ none 0 0 none 0 0) 10 120 und_vals hi0 hz0 hz1 hz2 rfl (by decide) _ 0 [] rfl (own_empty6 _ _ _ _ rfl) ⟨bb, off, none⟩ kids.length lc (newsV kids) rfl (newsV_length kids) (HN.out _) (newsV_one kids) h0 (by unfold maxLen; omega) (by omega) (by simp) _ rfl ?_
           intro gb cap w3 hown hgrow _ _
           simp only [Nat.zero_add, List.nil_append] at hown
           have hg3 : World.grownBy _ w3 (some w.heap.size) := hgrow
           have B3 := Lib.hid (Below.grown (bal (Below.refl _ w) (.cells #[] 31)) hg3 (bal (Below.refl _ w) (.cells #[] 31)).size (by intro q hq; cases hq; exact Nat.le_refl _))
           have OW := Lib.hid hown
           clear hgrow hg3 HN hown)
        | fail)
      go_ret
      obtain ⟨c1, c2, c3, c4⟩ := cur_of_own OW.out
      exact ⟨_, _, gb, rfl, c4, fun _ => ⟨rfl, c1⟩, c2, c3, B3.out⟩
end Go.Proofs.YtjdogiehcgfmjaaDoor
end
