/-
  The reference's Add: the contract, for all numbers of at most 1000 digits of 32 bits.
-/
import Derived.Test.YtjlgiejggcbgbaaGreatDoorRefA
namespace Go.Proofs.YtjlgiejggcbgbaaGreatDoor
open Go.RowKit Go.Shelf

abbrev U32s (l : List Nat) : List Value := l.map fun d => Value.int .u32 ((d : Nat) : Int)
theorem U32s_snoc (O : List Nat) (d : Nat) (z : Int) (e : (d : Int) = z) : U32s (O ++ [d]) = U32s O ++ [.int .u32 z] := by
  unfold U32s
  rw [List.map_append, List.map_cons, List.map_nil, e]
/-- What holds at the head of Add's loop. -/
def AddInv (x y k cc : Nat) (O : List Nat) : Prop := O.length = k ∧ Sm O ∧ cc ≤ 1 ∧ dval O + 2 ^ (32 * k) * cc = x % 2 ^ (32 * k) + y % 2 ^ (32 * k)
theorem AddInv.zero (x y : Nat) : AddInv x y 0 0 [] := ⟨rfl, Sm.nil, by omega, by simp [dval, Nat.mod_one]⟩
theorem AddInv.next {x y k cc : Nat} {O : List Nat} (h : AddInv x y k cc O) {a b s : Nat} (ha : a = x / 2 ^ (32 * k) % 4294967296) (hb : b = y / 2 ^ (32 * k) % 4294967296) (hs : s = cc + a + b) :
    AddInv x y (k + 1) (s / 4294967296) (O ++ [s % 4294967296]) := by
  obtain ⟨h1, h2, h3, h4⟩ := h
  refine ⟨by simp [h1], h2.app (Sm.one (by omega)), by omega, ?_⟩
  rw [dval_app, h1]
  have := add_step (v := dval O) (s := s) h4 (by rw [hs, ha, hb])
  simp only [dval]
  rw [Nat.mul_zero, Nat.add_zero]
  exact this
theorem AddInv.stop {x y k : Nat} {O : List Nat} (h : AddInv x y k 0 O) (hx : (digs x).length ≤ k) (hy : (digs y).length ≤ k) : dval O = x + y := by
  obtain ⟨_, _, _, h4⟩ := h
  rw [Nat.mod_eq_of_lt (digs_len.1 hx), Nat.mod_eq_of_lt (digs_len.1 hy)] at h4
  omega
/-- One digit more than the longer one is enough. -/
theorem AddInv.last {x y k cc : Nat} {O : List Nat} (h : AddInv x y (k + 1) cc O) (hx : (digs x).length ≤ k) (hy : (digs y).length ≤ k) : cc = 0 := by
  obtain ⟨_, _, h3, h4⟩ := h
  have e1 := digs_len.1 hx
  have e2 := digs_len.1 hy
  rw [Nat.mod_eq_of_lt (digs_len.1 (Nat.le_succ_of_le hx)), Nat.mod_eq_of_lt (digs_len.1 (Nat.le_succ_of_le hy)), pow_step] at h4
  rcases Nat.eq_zero_or_pos cc with h0 | h0
  · exact h0
  · exfalso
    have : 2 ^ (32 * k) * 4294967296 * 1 ≤ 2 ^ (32 * k) * 4294967296 * cc := Nat.mul_le_mul_left _ h0
    omega

set_option maxHeartbeats 1000000 in
set_option maxRecDepth 100000 in
theorem radd_core (A B : Option Addr) (n ca m cb x y : Nat) (hn : n = (digs x).length) (hm : m = (digs y).length) (hn1 : n ≤ 1000) (hm1 : m ≤ 1000) (w : World)
    (hx : DR w (.slice A n ca) x) (hy : DR w (.slice B m cb) y) :
    Calls Tryz.prog 50 #[.slice A n ca, .slice B m cb] w fun e w' => ∃ s', e = .returned s' ∧ DR w' s' (x + y) ∧ Below w.heap.size w w' := by
  obtain ⟨i0, hi, hz0, hz1, hz2⟩ := info_parts info_u32
  have HN := Lib.hid hn; have HM := Lib.hid hm; have HX := Lib.hid hx; have HY := Lib.hid hy; clear hn hm hx hy
  go_enter Tryz.func50, Tryz.ntmps50
  go_wp2
  go_loopw [5, 6, 7] (fun v c i wr => ∃ (k cc : Nat) (O : List Nat), c = .int .u64 (cc : Int) ∧ i = .int .i64 (k : Int) ∧ k ≤ max n m + 1 ∧ Hid (AddInv x y k cc O) ∧ wr.ownsRow w.heap.size 68 1 v k (U32s O) ∧ Below w.heap.size w wr)
    (fun _ _ i _ => max n m + 1 - (intOf i).toNat)
  case atStart => exact ⟨0, 0, [], rfl, rfl, by omega, AddInv.zero x y, World.ownsRow_nil _ _ _ _, Below.refl _ _⟩
  case round =>
    obtain ⟨k, cc, O, rfl, rfl, hk, HI, hown, hbw⟩ := hrel
    have hcc : cc ≤ 1 := HI.out.2.2.1
    obtain ⟨a, ha⟩ : ∃ a, a = x / 2 ^ (32 * k) % 4294967296 := ⟨_, rfl⟩
    obtain ⟨b, hb⟩ : ∃ b, b = y / 2 ^ (32 * k) % 4294967296 := ⟨_, rfl⟩
    have ha1 : a < 4294967296 := by omega
    have hb1 : b < 4294967296 := by omega
    have cA := at_dr (HX.out.keep hbw) (k : Int) (by omega)
    have cB := at_dr (HY.out.keep hbw) (k : Int) (by omega)
    rw [Int.toNat_natCast, ← ha] at cA
    rw [Int.toNat_natCast, ← hb] at cB
    have CA := Lib.hid cA; have CB := Lib.hid cB; have HA := Lib.hid ha; have HB := Lib.hid hb; clear cA cB ha hb
    by_cases hgo : k < n ∨ k < m ∨ 0 < cc
    · have hmax : k ≤ max n m := by
        apply Decidable.byContradiction
        intro hc
        obtain rfl : k = max n m + 1 := by omega
        have := HI.out.last (by rw [← HN.out]; omega) (by rw [← HM.out]; omega)
        omega
      have hcase : (k < n) ∨ (¬ k < n ∧ k < m) ∨ (¬ k < n ∧ ¬ k < m ∧ 0 < cc) := by omega
      clear hgo
      rcases hcase with h1 | ⟨h1, h2⟩ | ⟨h1, h2, h3⟩
      all_goals
        go_wp2_with fail
        refine CA.out.mono ?_
        rintro e w1 ⟨rfl, hw⟩
        rw [hw]; clear hw w1
        go_wp2_with fail
        refine CB.out.mono ?_
        rintro e w1 ⟨rfl, hw⟩
        rw [hw]; clear hw w1
        go_wp2_with (at_builtin; refine wpList_append_own _ rfl (.tmp 33) (.tmp 36) 57 rfl w.heap.size 68 i0 (.int .u32 0) 1 4 und_d hi hz0 hz1 hz2 rfl (by decide) _ k _ rfl (hown.alloc _) ⟨wr.heap.size, 0, none⟩ 1 1 [.int .u32 (((cc : Int) + (a : Int) + (b : Int)) % 4294967296)] rfl rfl (cell_new1 _ _ _) (one_new1 _ _) (by unfold maxLen; omega) (by omega) (by simp; have := hbw.size; omega) ?_; intro v' w1 hown' hgrow _)
        have hown2 : w1.ownsRow w.heap.size 68 1 v' (k + 1) (U32s (O ++ [(cc + a + b) % 4294967296])) := by
          have e : (((cc + a + b) % 4294967296 : Nat) : Int) = ((cc : Int) + (a : Int) + (b : Int)) % 4294967296 := by omega
          rw [U32s_snoc O _ _ e]
          exact hown'
        have hb1 : Below w.heap.size w w1 := (hbw.alloc hbw.size _).grown hgrow (by simp; have := hbw.size; omega) (fun q hq => hown.lt q hq |>.1)
        clear hown' hgrow hown
        go_wp2
        go_roundw
        case rel => exact ⟨k + 1, (cc + a + b) / 4294967296, O ++ [(cc + a + b) % 4294967296], by (congr 1), by go_num, by omega, HI.out.next HA.out HB.out rfl, hown2, hb1⟩
        case measure => simp [intOf]; omega
    · have hc0 : cc = 0 := by omega
      subst hc0
      have h1 : ¬ k < n := by omega
      have h2 : ¬ k < m := by omega
      have hv := HI.out.stop (by rw [← HN.out]; omega) (by rw [← HM.out]; omega)
      have hl : O.length = k := HI.out.1
      have hrd := rd_own (l := O) (by rw [hl]; exact hown)
      have ht := trim_dr hrd HI.out.2.1
      rw [hv] at ht
      have HT := Lib.hid ht
      clear ht hv hl hrd hgo
      go_wp2_with fail
      refine HT.out.mono ?_
      rintro e w1 ⟨s', rfl, hr, hw⟩
      rw [hw]; clear hw w1
      go_wp2
      go_ret
      exact ⟨s', rfl, hr, hbw⟩
end Go.Proofs.YtjlgiejggcbgbaaGreatDoor
