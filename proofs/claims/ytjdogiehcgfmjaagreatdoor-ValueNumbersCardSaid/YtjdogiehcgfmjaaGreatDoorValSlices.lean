/-
  slices.Index at texts; slices.Clone at texts and at values: the contracts.
-/
import Derived.Test.YtjdogiehcgfmjaaGreatDoorValFrom
namespace Go.Proofs.YtjdogiehcgfmjaaGreatDoor
open Go.RowKit Go.Shelf

/-- The place of the first of these names that is such; -1. -/
def idxN (keys : List ByteArray) (s : ByteArray) : Int :=
  match keys.findIdx? (fun k => s.toList == k.toList) with
  | some i => (i : Int)
  | none => -1
theorem idxN_hit {keys : List ByteArray} {s k : ByteArray} {i : Nat} (hk : keys[i]? = some k) (he : (s.toList == k.toList) = true) (hno : ∀ j < i, ∀ k', keys[j]? = some k' → (s.toList == k'.toList) = false) : idxN keys s = i := by
  obtain ⟨hl, rfl⟩ := List.getElem?_eq_some_iff.1 hk
  have : keys.findIdx? (fun k => s.toList == k.toList) = some i := by
    rw [List.findIdx?_eq_some_iff_getElem]
    exact ⟨hl, he, fun j hj => by rw [hno j hj keys[j] (List.getElem?_eq_getElem (by omega))]; simp⟩
  unfold idxN
  rw [this]
theorem idxN_none {keys : List ByteArray} {s : ByteArray} (hno : ∀ (j : Nat) (k' : ByteArray), keys[j]? = some k' → (s.toList == k'.toList) = false) : idxN keys s = -1 := by
  have : keys.findIdx? (fun k => s.toList == k.toList) = none := by
    rw [List.findIdx?_eq_none_iff]
    intro k hk
    obtain ⟨j, hj⟩ := List.getElem?_of_mem hk
    exact hno j k hj
  unfold idxN
  rw [this]
theorem ret_idx {a b : Int} (h : a = b) : Ending.returned (.int .i64 a) = .returned (.int .i64 b) := by rw [h]

set_option maxRecDepth 100000 in
set_option maxHeartbeats 1000000 in
theorem kfind (ka : Option Addr) (kc : Nat) (keys : List ByteArray) (kb koff : Nat) (s : ByteArray) (w : World) (hK : KeysL w ka keys kb koff) :
    Calls Tryz.prog 50 #[.slice ka keys.length kc, .string s] w fun e w' => e = .returned (.int .i64 (idxN keys s)) ∧ w = w' := by
  have hn := hK.len
  have HK := Lib.hid hK
  clear hK
  go_enter Tryz.func50, Tryz.ntmps50
  go_wp2
  go_loopw [5, 8] (fun _ i wr => ∃ k : Nat, k ≤ keys.length ∧ i = .int .i64 k ∧ Hid (wr = w) ∧ Hid (∀ j < k, ∀ k', keys[j]? = some k' → (s.toList == k'.toList) = false)) (fun _ i _ => keys.length - (intOf i).toNat)
  case atStart => exact ⟨0, Nat.zero_le _, rfl, (show Hid _ from rfl), (show Hid _ from fun j hj => absurd hj (by omega))⟩
  case round =>
    obtain ⟨k, hk, rfl, WR, AN⟩ := hrel
    have hwr := WR.out
    by_cases hlt : k < keys.length
    · obtain ⟨t, ht, hm⟩ := key_at hlt
      have hr := HK.out.cells k t ht
      obtain rfl : ka = some ⟨kb, koff, none⟩ := HK.out.ka (by omega)
      have HHT := Lib.hid ht
      rw [← hwr] at hr
      clear hwr ht
      cases hq : (s.toList == t.toList) with
      | true =>
        have HF : Hid (idxN keys s = k) := idxN_hit HHT.out hq AN.out
        go_wp2
        go_ret
        exact ⟨ret_idx HF.out.symm, WR.out.symm⟩
      | false =>
        have HQ := Lib.hid hq
        go_wp2
        go_roundw
        case rel =>
          refine ⟨k + 1, by omega, by go_num, WR, (show Hid _ from fun j hj k' hk' => ?_)⟩
          by_cases hjk : j = k
          · subst hjk
            rw [HHT.out] at hk'
            cases hk'
            exact HQ.out
          · exact AN.out j (by omega) k' hk'
        case measure => simp [intOf]; omega
    · have hge : ¬ (k : Int) < (keys.length : Int) := by omega
      have HF : Hid (idxN keys s = -1) := idxN_none fun j k' hj => AN.out j (by have := (List.getElem?_eq_some_iff.1 hj).1; omega) k' hj
      clear hwr
      go_wp2
      go_ret
      exact ⟨ret_idx HF.out.symm, WR.out.symm⟩

theorem eql_nil (t e : TypeId) (h : Tryz.prog.underlying t = some (.slice e)) (a : Option Addr) (n c : Nat) (W : World) : (binOp .eql t (.slice a n c) (.slice none 0 0)).run Tryz.prog W = .ok (.bool a.isNone) W := by
  simp only [binOp]
  simp [Op.equal, Op.maxDepth, run_equalIn_slice_nil W 9999 t e a n c h]
/-- A slice's copy in a block of its own. -/
def CloneS (w : World) (t : TypeId) (n : Nat) (xs : List Value) (E : Ending) (w' : World) : Prop :=
  ∃ (a' : Option Addr) (c' g : Nat), E = .returned (.slice a' n c') ∧ w.heap.size ≤ g ∧ (0 < n → a' = some ⟨g, 0, none⟩ ∧ Cur w' g t xs) ∧ n ≤ c' ∧ c' ≤ maxLen ∧ Below w.heap.size w w'
set_option maxRecDepth 100000 in
set_option maxHeartbeats 1000000 in
theorem kclone (ka : Option Addr) (kc : Nat) (keys : List ByteArray) (kb koff : Nat) (w : World) (hK : KeysL w ka keys kb koff) (h4 : keys.length ≤ 1000) :
    Calls Tryz.prog 100 #[.slice ka keys.length kc] w fun e w' => CloneS w 9 keys.length (keys.map Value.string) e w' := by
  obtain ⟨i0, hi0, hz0, hz1, hz2⟩ := info_at info_str
  cases ka with
  | none =>
    have h0 : keys.length = 0 := by
      rcases Nat.eq_zero_or_pos keys.length with h | h
      · exact h
      · exact absurd (hK.ka h) (by simp)
    obtain rfl : keys = [] := List.eq_nil_of_length_eq_zero h0
    clear hK h0
    have hE := eql_nil 29 _ und_strs
    go_enter Tryz.func100, Tryz.ntmps100
    go_wp2
    go_ret
    exact ⟨_, _, w.heap.size, rfl, Nat.le_refl _, fun h => absurd h (by simp), by simp, by unfold maxLen; omega, Below.refl _ _⟩
  | some a =>
    rcases Nat.eq_zero_or_pos keys.length with h0 | h0
    · obtain rfl : keys = [] := List.eq_nil_of_length_eq_zero h0
      clear hK h0
      have hE := eql_nil 29 _ und_strs
      go_enter Tryz.func100, Tryz.ntmps100
      go_wp2
      go_ret
      exact ⟨_, _, w.heap.size, rfl, Nat.le_refl _, fun h => absurd h (by simp), by simp, by unfold maxLen; omega, bal (Below.refl _ _) _⟩
    · obtain rfl : a = ⟨kb, koff, none⟩ := by have := hK.ka h0; cases this; rfl
      have HN := Lib.hid (fun o => keys_news (KeysL.keep hK (bal (Below.refl _ w) o)))
      clear hK
      have hE := eql_nil 29 _ und_strs
      go_enter Tryz.func100, Tryz.ntmps100
      go_wp2_with (first
        | (at_builtin; refine wpList_append_lies _ rfl (.tmp 5) (.tmp 6) 29 rfl w.heap.size 9 i0 (.string ⟨#[]⟩) 1 16 und_strs hi0 hz0 hz1 hz2 rfl (by decide) _ 0 [] rfl (own_empty6 _ _ _ _ rfl) ⟨kb, koff, none⟩ keys.length kc (keys.map Value.string) rfl (by simp) (HN.out _) (one_strs keys) h0 (by unfold maxLen; omega) (by omega) (by simp) _ rfl ?_
           intro gb cap w3 hown hgrow _ _
           simp only [Nat.zero_add, List.nil_append] at hown
           have hg3 : World.grownBy _ w3 (some w.heap.size) := hgrow
           have B3 := Lib.hid (Below.grown (bal (Below.refl _ w) (.cells #[] 9)) hg3 (bal (Below.refl _ w) (.cells #[] 9)).size (by intro q hq; cases hq; exact Nat.le_refl _))
           have OW := Lib.hid hown
           clear hgrow hg3 HN hown)
        | fail)
      go_ret
      obtain ⟨c1, c2, c3, c4⟩ := cur_of_own OW.out
      exact ⟨_, _, gb, rfl, c4, fun _ => ⟨rfl, c1⟩, c2, c3, B3.out⟩
set_option maxRecDepth 100000 in
set_option maxHeartbeats 1000000 in
theorem lclone (la : Option Addr) (lc : Nat) (kids : List VT) (bb off : Nat) (w : World) (hK : Kids w la kids bb off) (h4 : kids.length ≤ 1000) :
    Calls Tryz.prog 101 #[.slice la kids.length lc] w fun e w' => CloneS w 31 kids.length (newsV kids) e w' := by
  obtain ⟨i0, hi0, hz0, hz1, hz2⟩ := info_at info_val
  cases la with
  | none =>
    have h0 : kids.length = 0 := by
      rcases Nat.eq_zero_or_pos kids.length with h | h
      · exact h
      · exact absurd (hK.la h) (by simp)
    obtain rfl : kids = [] := List.eq_nil_of_length_eq_zero h0
    clear hK h0
    have hE := eql_nil 28 _ und_vals
    go_enter Tryz.func101, Tryz.ntmps101
    go_wp2
    go_ret
    exact ⟨_, _, w.heap.size, rfl, Nat.le_refl _, fun h => absurd h (by simp), by simp, by unfold maxLen; omega, Below.refl _ _⟩
  | some a =>
    rcases Nat.eq_zero_or_pos kids.length with h0 | h0
    · obtain rfl : kids = [] := List.eq_nil_of_length_eq_zero h0
      clear hK h0
      have hE := eql_nil 28 _ und_vals
      go_enter Tryz.func101, Tryz.ntmps101
      go_wp2
      go_ret
      exact ⟨_, _, w.heap.size, rfl, Nat.le_refl _, fun h => absurd h (by simp), by simp, by unfold maxLen; omega, bal (Below.refl _ _) _⟩
    · obtain rfl : a = ⟨bb, off, none⟩ := by have := hK.la h0; cases this; rfl
      have HN := Lib.hid (fun o => kids_news (Kids.keep hK (bal (Below.refl _ w) o)))
      clear hK
      have hE := eql_nil 28 _ und_vals
      go_enter Tryz.func101, Tryz.ntmps101
      go_wp2_with (first
        | (at_builtin; refine wpList_append_lies _ rfl (.tmp 5) (.tmp 6) 28 rfl w.heap.size 31 i0 (V10 0 false 0 0 0 0 0 ⟨#[]⟩ none 0 0 none 0 0) 10 120 und_vals hi0 hz0 hz1 hz2 rfl (by decide) _ 0 [] rfl (own_empty6 _ _ _ _ rfl) ⟨bb, off, none⟩ kids.length lc (newsV kids) rfl (newsV_length kids) (HN.out _) (newsV_one kids) h0 (by unfold maxLen; omega) (by omega) (by simp) _ rfl ?_
           intro gb cap w3 hown hgrow _ _
           simp only [Nat.zero_add, List.nil_append] at hown
           have hg3 : World.grownBy _ w3 (some w.heap.size) := hgrow
           have B3 := Lib.hid (Below.grown (bal (Below.refl _ w) (.cells #[] 31)) hg3 (bal (Below.refl _ w) (.cells #[] 31)).size (by intro q hq; cases hq; exact Nat.le_refl _))
           have OW := Lib.hid hown
           clear hgrow hg3 HN hown)
        | fail)
      go_ret
      obtain ⟨c1, c2, c3, c4⟩ := cur_of_own OW.out
      exact ⟨_, _, gb, rfl, c4, fun _ => ⟨rfl, c1⟩, c2, c3, B3.out⟩
end Go.Proofs.YtjdogiehcgfmjaaGreatDoor
