/-
  value.areNames: the contract; what it is that a map's names may be.
-/
import Derived.Test.YtfaaagmjmljhiaaGreatDoorValOver
namespace Go.Proofs.YtfaaagmjmljhiaaGreatDoor
open Go.RowKit Go.Shelf

/-- Is a text not behind another one, by bytes? -/
def leS (a b : ByteArray) : Bool := Op.bytesLess a.toList b.toList || a.toList == b.toList
/-- Is the name at a place such as it may be? -/
def keyOk (keys : List ByteArray) (j : Nat) : Bool := uval (keys.getD j ⟨#[]⟩).data.toList && (j == 0 || !leS (keys.getD j ⟨#[]⟩) (keys.getD (j - 1) ⟨#[]⟩))
def namesB (keys : List ByteArray) : Bool := (List.range keys.length).all (keyOk keys)
theorem namesB_all {keys : List ByteArray} {k : Nat} (h : ∀ j, j < k → keyOk keys j = true) (hk : keys.length ≤ k) : namesB keys = true := by
  unfold namesB
  rw [List.all_eq_true]
  intro j hj
  exact h j (by have := List.mem_range.1 hj; omega)
theorem namesB_not {keys : List ByteArray} {k : Nat} (h : keyOk keys k = false) (hk : k < keys.length) : namesB keys = false := by
  unfold namesB
  rw [Bool.eq_false_iff]
  intro ha
  rw [List.all_eq_true] at ha
  have := ha k (List.mem_range.2 hk)
  rw [h] at this
  cases this
theorem getD_at {keys : List ByteArray} {k : Nat} {s : ByteArray} (h : keys[k]? = some s) : keys.getD k ⟨#[]⟩ = s := by rw [List.getD_eq_getElem?_getD, h]; rfl
theorem keyOk_zero {keys : List ByteArray} {s : ByteArray} {q : Bool} (h : keys[0]? = some s) (hq : uval s.data.toList = q) : keyOk keys 0 = q := by unfold keyOk; rw [getD_at h, hq]; simp
theorem keyOk_bad {keys : List ByteArray} {k : Nat} {s : ByteArray} (h : keys[k]? = some s) (hq : uval s.data.toList = false) : keyOk keys k = false := by unfold keyOk; rw [getD_at h, hq]; rfl
theorem keyOk_succ {keys : List ByteArray} {k : Nat} {s r : ByteArray} {q : Bool} (h : keys[k + 1]? = some s) (h0 : keys[k]? = some r) (hq : uval s.data.toList = true) (hl : leS s r = q) : keyOk keys (k + 1) = !q := by
  unfold keyOk; rw [getD_at h, hq, Nat.add_sub_cancel, getD_at h0, hl]; rfl

theorem all_one {keys : List ByteArray} (h : keyOk keys 0 = true) : Hid (∀ j, j < 1 → keyOk keys j = true) := fun j hj => by
  obtain rfl : j = 0 := by omega
  exact h
set_option maxHeartbeats 1000000 in
theorem names_any (ka : Option Addr) (kc : Nat) (keys : List ByteArray) (kb koff : Nat) (w : World) (hK : KeysL w ka keys kb koff) (hz : ∀ s ∈ keys, s.size ≤ 140737488351232) :
    Calls Tryz.prog 51 #[.slice ka keys.length kc] w fun e w' => e = .returned (.bool (namesB keys)) ∧ Below w.heap.size w w' := by
  have hn := hK.len
  have HK := Lib.hid hK; have HS := Lib.hid hz
  clear hK hz
  go_enter Tryz.func51, Tryz.ntmps51
  go_wp2
  go_loopw [3, 4, 7] (fun _ _ i wr => ∃ k : Nat, k ≤ keys.length ∧ i = .int .i64 k ∧ Hid (Below w.heap.size w wr) ∧ Hid (∀ j, j < k → keyOk keys j = true)) (fun _ _ i _ => keys.length - (intOf i).toNat)
  case atStart => exact ⟨0, Nat.zero_le _, rfl, Below.refl _ _, (show Hid _ from fun j hj => absurd hj (Nat.not_lt_zero _))⟩
  case round =>
    obtain ⟨k, hk, rfl, BW, AN⟩ := hrel
    by_cases hlt : k < keys.length
    · obtain ⟨s, hs, hm⟩ := key_at hlt
      have hr := cell_keep BW.out (HK.out.cells k s hs)
      obtain rfl : ka = some ⟨kb, koff, none⟩ := HK.out.ka (by omega)
      have hv := fun W => valid_any s (HS.out s hm) W
      cases hq : uval s.data.toList with
      | false =>
        rw [hq] at hv
        have HF := Lib.hid (namesB_not (keyOk_bad hs hq) hlt)
        have HV := Lib.hid hv
        clear hv hq hs hm
        go_wp2_with (go_at_call 50; ((with_reducible refine (HV.out _).mono ?_); rintro e w1 ⟨rfl, rfl⟩))
        go_ret
        exact ⟨ret_bool HF.out.symm, BW.out⟩
      | true =>
        rw [hq] at hv
        have HV := Lib.hid hv
        cases k with
        | zero =>
          have HO := Lib.hid (keyOk_zero hs hq)
          rw [Nat.add_zero] at hr
          clear hv hq hs hm
          go_wp2_with (go_at_call 50; ((with_reducible refine (HV.out _).mono ?_); rintro e w1 ⟨rfl, rfl⟩))
          go_roundw
          case rel => exact ⟨1, by omega, rfl, BW.out, all_one HO.out⟩
          case measure => simp [intOf]; omega
        | succ j =>
          obtain ⟨r, hr0, _⟩ := key_at (show j < keys.length by omega)
          have hrc := cell_keep BW.out (HK.out.cells j r hr0)
          cases hl : leS s r with
          | true =>
            have HF := Lib.hid (namesB_not (keyOk_succ hs hr0 hq hl) hlt)
            unfold leS at hl
            clear hv hq hs hm hr0
            go_wp2_with (go_at_call 50; ((with_reducible refine (HV.out _).mono ?_); rintro e w1 ⟨rfl, rfl⟩))
            go_ret
            exact ⟨ret_bool HF.out.symm, BW.out⟩
          | false =>
            have HO := Lib.hid (keyOk_succ hs hr0 hq hl)
            unfold leS at hl
            clear hv hq hs hm hr0
            go_wp2_with (go_at_call 50; ((with_reducible refine (HV.out _).mono ?_); rintro e w1 ⟨rfl, rfl⟩))
            go_roundw
            case rel => exact ⟨j + 1 + 1, by omega, by go_num, BW.out, (show Hid _ from fun i hi => by
                by_cases e : i = j + 1
                · subst e; exact HO.out
                · exact AN.out i (by omega))⟩
            case measure => simp [intOf]; omega
    · have hge : ¬ (k : Int) < (keys.length : Int) := by omega
      have HF := Lib.hid (namesB_all AN.out (by omega))
      go_wp2
      go_ret
      exact ⟨ret_bool HF.out.symm, BW.out⟩
end Go.Proofs.YtfaaagmjmljhiaaGreatDoor
