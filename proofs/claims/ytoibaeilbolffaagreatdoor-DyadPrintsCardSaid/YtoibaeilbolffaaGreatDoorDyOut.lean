/-
  dyad.Print: what it answers, for every word.
-/
import Derived.Test.YtoibaeilbolffaaGreatDoorDyPrint
import Derived.Test.YtoibaeilbolffaaGreatDoorWidthsMath
namespace Go.Proofs.YtoibaeilbolffaaGreatDoor
open Go.RowKit Go.Shelf

theorem plain_parts {b : Nat} (hc : cls b = 1) : ∃ d m K, d = 2 * m + 1 ∧ 1 ≤ K ∧ K ≤ 64 ∧ beh b = K ∧ d.log2 ≤ 52 ∧ od b = d ∧ b = sg b * 9223372036854775808 + nr d (-(K : Int)) ∧ rg b < INF := by
  unfold cls at hc
  split at hc
  · cases hc
  · split at hc
    · split at hc <;> cases hc
    · split at hc
      · cases hc
      · split at hc
        · cases hc
        · rename_i h1 h2 h3 h4
          have hf : rg b < INF := by omega
          have hB : beh b = (-(pw b)).toNat := by unfold beh; rw [if_pos hf]
          have h0 : dg b ≠ 0 := by
            intro h
            have : pw b = 0 := by unfold pw; rw [if_pos h]
            rw [this] at hB
            exact h4 (Or.inl (by rw [hB]; rfl))
          obtain ⟨n, hn, _⟩ := ctz_word h0 (dg_lt b)
          have hod : od b = 2 * n + 1 := by
            unfold od
            rw [if_neg h0]
            have : (2 * n + 1) * 2 ^ Lib.ctz 64 (dg b) / 2 ^ Lib.ctz 64 (dg b) = 2 * n + 1 := Nat.mul_div_cancel _ (Nat.two_pow_pos _)
            rw [Nat.mul_comm, ← hn] at this
            exact this
          have hpw : pw b = ex b + (Lib.ctz 64 (dg b) : Nat) := by
            unfold pw ex
            rw [if_neg h0]
            generalize b / 4503599627370496 % 2048 = f
            generalize Lib.ctz 64 (dg b) = c
            split <;> omega
          have hlg : (dg b).log2 = (2 * n + 1).log2 + Lib.ctz 64 (dg b) := by
            have := lg_mul (2 * n + 1) (Lib.ctz 64 (dg b)) (by omega)
            rw [Nat.mul_comm, ← hn] at this
            exact this
          have hd53 : (dg b).log2 < 53 := lg_lt (by
            have : dg b < 9007199254740992 := by unfold dg; split <;> omega
            exact Nat.lt_of_lt_of_le this (by decide)) h0
          refine ⟨2 * n + 1, n, beh b, rfl, by omega, by omega, rfl, by omega, hod, ?_, hf⟩
          have hw := word_fit hf (d := 2 * n + 1) (t := Lib.ctz 64 (dg b)) (by rw [Nat.mul_comm]; exact hn) h0 hlg (by omega)
          have he : ex b + ((Lib.ctz 64 (dg b) : Nat) : Int) = -((beh b : Nat) : Int) := by omega
          rw [he] at hw
          rw [hw]
          exact word_of b
/-- What Print answers. -/
def ptx (b : Nat) : List UInt8 := (if sg b = 1 then [45] else []) ++ wpt (Lib.decDigits (od b * 5 ^ beh b)) (beh b)
def prans (b : Nat) : Value := if cls b = 1 then .tuple #[.string (str (ptx b)), .bool true] else .tuple #[.string ⟨#[]⟩, .bool false]
theorem dstr_str (x : Nat) : dstr x = str (Lib.decDigits x) := rfl
theorem wend_odd {Y d : Nat} {g : Bool} (hd0 : d ≠ 0) (hw : whl Y = some d) (hg : g = (sg Y == 1)) (h2 : sg Y = 0 ∨ sg Y = 1) : WEnd Y = .tuple #[I5 g d, .bool true] := by
  unfold WEnd
  rw [hw]
  simp only
  rcases h2 with h | h
  · rw [h] at hg
    rw [h, if_neg (by decide), hg]
    show Value.tuple #[I5 (decide ((d : Int) < 0)) ((d : Int)).natAbs, _] = _
    rw [decide_eq_false (by omega), Int.natAbs_natCast]
    rfl
  · rw [h] at hg
    rw [h, if_pos rfl, hg]
    show Value.tuple #[I5 (decide (-(d : Int) < 0)) (-(d : Int)).natAbs, _] = _
    rw [decide_eq_true (by omega), Int.natAbs_neg, Int.natAbs_natCast]
    rfl
theorem sign_text (l : List UInt8) (s : Nat) (g : Bool) (hg : g = (s == 1)) (h2 : s = 0 ∨ s = 1) : (if g = true then (⟨#[45]⟩ ++ str l : ByteArray) else str l) = str ((if s = 1 then [45] else []) ++ l) := by
  rcases h2 with h | h
  · subst h; subst hg; rfl
  · subst h; subst hg
    show (⟨#[45]⟩ : ByteArray) ++ str l = str ([45] ++ l)
    rw [show (⟨#[45]⟩ : ByteArray) = str [45] from rfl, str_app]
theorem wpt_le (l : List UInt8) (K : Nat) (hK : K ≤ 64) (hl : l.length ≤ 78) : (str (wpt l K)).size ≤ 400 := by
  have hp := padl_len l K
  rw [str_size]
  unfold wpt
  rw [List.length_append, List.length_append, List.length_take, List.length_drop]
  simp only [List.length_cons, List.length_nil]
  omega
theorem five_fit {d K : Nat} (hd : d < 9007199254740992) (hK : K ≤ 64) : d * 5 ^ K < 2 ^ 256 := by
  have a : 5 ^ K ≤ 5 ^ 64 := Nat.pow_le_pow_right (by decide) hK
  have c : d * 5 ^ K ≤ 9007199254740992 * 5 ^ 64 := Nat.mul_le_mul (by omega) a
  exact Nat.lt_of_le_of_lt c (by decide +kernel)
theorem odd_small {d : Nat} (hd0 : d ≠ 0) (hl : d.log2 ≤ 52) : d < 9007199254740992 := by
  have hM := top_bounds hd0 hl
  rw [show (2 : Nat) ^ (52 + 1) = 9007199254740992 from by decide] at hM
  have : d * 1 ≤ d * 2 ^ (52 - d.log2) := Nat.mul_le_mul_left _ (Nat.two_pow_pos _)
  omega
theorem five_calls {d K x : Nat} (hd : d < 9007199254740992) (hK : K ≤ 64) (hx : x = d * 5 ^ K) (W : World) :
    Calls Tryz.prog 29 #[N4 d, .int .u64 5, .int .i64 (K : Int)] W fun e w' => e = .returned (.tuple #[N4 x, .bool true]) ∧ Below W.heap.size W w' := by
  have k5 := times_any d 5 K (Nat.lt_trans hd (by decide)) (by decide) (by decide) (by omega) W
  unfold tms at k5
  rw [if_pos (five_fit hd hK), ← hx] at k5
  exact k5
/-- The odd digits, times 2 ^ K: a whole number of floats. -/
theorem scaled_calls {b d K Y : Nat} {g : Bool} (hd0 : d ≠ 0) (hl : d.log2 ≤ 52) (hK1 : 1 ≤ K) (hK2 : K ≤ 64) (hsg : g.toNat = sg b) (hw : b = sg b * 9223372036854775808 + nr d (-(K : Int))) (hY : Y = sg b * 9223372036854775808 + nr d ((0 : Nat) : Int)) (W : World) :
    Calls Tryz.prog 28 #[.int .u64 (b : Int), .int .i64 (K : Int)] W fun e w' => e = .returned (.int .u64 (Y : Int)) ∧ Below W.heap.size W w' := by
  have k3 := same_below (dscaled_any g (d := d) (t := -(K : Int)) (p := (K : Int)) hd0 hl (by omega) (by omega) (by omega) (by omega) (by omega) (by omega) W)
  rw [hsg, ← hw, show -(K : Int) + (K : Int) = ((0 : Nat) : Int) from by omega, ← hY] at k3
  exact k3
theorem whole_odd {s d Y : Nat} {m : Nat} (hs : s < 2) (hd : d = 2 * m + 1) (hd0 : d ≠ 0) (hl : d.log2 ≤ 52) (hY : Y = s * 9223372036854775808 + nr d ((0 : Nat) : Int)) : whl Y = some d ∧ sg Y = s ∧ Y < 18446744073709551616 := by
  have hI : INF = 9218868437227405312 := rfl
  have hn0 := (nr_spec (d := d) (p := ((0 : Nat) : Int)) hd0 hl (by omega) (by omega)).1
  have hwp := word_parts (n := s) (r := nr d ((0 : Nat) : Int)) (by omega)
  have hwl := whl_odd (s := s) hd (t := 0) hl (by omega) (by rw [Nat.pow_zero, Nat.mul_one]; exact Nat.lt_trans (odd_small hd0 hl) (by decide))
  rw [Nat.pow_zero, Nat.mul_one, ← hY] at hwl
  rw [← hY] at hwp
  exact ⟨hwl, hwp.2, by omega⟩
theorem dprint_any (b : Nat) (hb : b < 18446744073709551616) (w : World) (hT : Tb w) (hU : Tab w) :
    Calls Tryz.prog 11 #[.int .u64 (b : Int)] w fun e w' => e = .returned (prans b) ∧ Below w.heap.size w w' := by
  have k1 := fun W (hW : Below w.heap.size w W) => class_any b hb W (tb_on hT hW)
  unfold prans
  by_cases hc : cls b = 1
  · rw [if_pos hc]
    rw [hc] at k1
    obtain ⟨d, m, K, hd, hK1, hK2, hB, hl, ho, hw, hf⟩ := plain_parts hc
    have hd0 : d ≠ 0 := by omega
    obtain ⟨hs2, hsg⟩ := sg_two hb
    have hd53 := odd_small hd0 hl
    obtain ⟨x, hx⟩ : ∃ x, x = d * 5 ^ K := ⟨_, rfl⟩
    have hx2 : x < 2 ^ 256 := hx ▸ five_fit hd53 hK2
    obtain ⟨Y, hY⟩ : ∃ Y, Y = sg b * 9223372036854775808 + nr d ((0 : Nat) : Int) := ⟨_, rfl⟩
    obtain ⟨hwl, hsY, hy64⟩ := whole_odd hs2 hd hd0 hl hY
    obtain ⟨g, hg⟩ : ∃ g, g = (sg b == 1) := ⟨_, rfl⟩
    rw [← hg] at hsg
    have k3 := fun W => scaled_calls hd0 hl hK1 hK2 hsg hw hY W
    have k4 := fun W (hW : Below w.heap.size w W) => whole_any Y hy64 W (tb_on hT hW)
    rw [wend_odd (g := g) hd0 hwl (by rw [hsY]; exact hg) (by omega)] at k4
    have k5 := fun W => five_calls hd53 hK2 hx W
    have k6 := fun W (hW : Below w.heap.size w W) => print_str x hx2 W (tab_on hU hW)
    have hdl := dstr_le hx2
    rw [dstr_size] at hdl
    have k7 := fun W => point_any (Lib.decDigits x) K hK2 (by omega) W
    have k2 := fun W (hW : Below w.heap.size w W) => same_below (behind_any b hb W (tb_on hT hW))
    rw [hB] at k2
    have h := dprint_yes (b : Int) (Y : Int) K d x g true true _ _ (wpt_le _ K hK2 hdl) w k1 k2 k3 k4 k5 k6 k7
    rw [sign_text _ (sg b) g hg (by omega)] at h
    unfold ptx
    rw [ho, hB, ← hx]
    exact h
  · rw [if_neg hc]
    exact dprint_no (b : Int) _ (by rw [bne_iff_ne]; omega) w k1
end Go.Proofs.YtoibaeilbolffaaGreatDoor
