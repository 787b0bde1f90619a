/-
  entrepotlaw8.CborFloats: for any bits.
-/
import Derived.Test.YtpgpodjmdflmeaaGreatDoorCbFloatW
import Derived.Test.YtpgpodjmdflmeaaGreatDoorWidthsAll
import Derived.Test.YtpgpodjmdflmeaaGreatDoorGV
import Derived.Test.YtpgpodjmdflmeaaGreatDoorR6Same
namespace Go.Proofs.YtpgpodjmdflmeaaGreatDoor
open Go.RowKit Go.Shelf

theorem natB_len {m tag x : Nat} (hx : x < 2 ^ 256) : 0 < (natB m tag x).length ∧ (natB m tag x).length ≤ 600 := by
  have h1 := hds_pos m x
  have h2 := hds_len m x
  have h3 := hds_pos 6 tag
  have h4 := hds_len 6 tag
  have h5 := hds_len 2 ((blen x + 7) / 8)
  have h6 : blen x ≤ 256 := by
    by_cases h0 : x = 0
    · subst h0; decide
    · have : x.log2 < 256 := (Nat.log2_lt h0).2 hx
      rw [blen_log h0]
      omega
  unfold natB
  split
  · omega
  · rw [List.length_append, List.length_append, be_len]
    omega
theorem intB_len {g : Bool} {x : Nat} (hx : x < 2 ^ 256) : 0 < (intB g x).length ∧ (intB g x).length ≤ 600 := by
  unfold intB
  split
  · exact natB_len (by omega)
  · exact natB_len hx
theorem fltB_can (b : Nat) : fltB (can b) = fltB b := by
  by_cases h : INF < rg b
  · unfold fltB
    rw [can_nan h, toh_nan h, toh_nan nan_rg]
    rfl
  · rw [can_id (by omega)]
theorem can_eq (b : Nat) : (if INF < rg b then NANW else b) = can b := rfl
theorem can_can (b : Nat) : can (can b) = can b := by
  by_cases h : INF < rg b
  · rw [can_nan h, can_nan nan_rg]
  · have := can_id (b := b) (by omega)
    rw [this, this]
theorem fltB_len (b : Nat) : 0 < (fltB b).length ∧ (fltB b).length ≤ 9 := by
  unfold fltB
  split
  · rw [hby_len]; decide
  · split
    · rw [hby_len]; decide
    · rw [hby_len]; decide
/-- The law, by what the bits' number is. -/
theorem floats_of (b : Nat) (hb : b < 18446744073709551616) (kn : Int) (gn : Bool) (xn : Nat) (bn : Int) (L : List UInt8) (hk : -100 ≤ kn ∧ kn ≤ 100) (hx : xn < 2 ^ 256) (hbn : 0 ≤ bn ∧ bn ≤ 18446744073709551615)
    (hL0 : 0 < L.length) (hL1 : L.length ≤ 65536) (hcase : (kn = 3 ∧ 0 < L.length) ∨ (kn = 4 ∧ (toh b).2 = true ∧ L.length = 3) ∨ (kn = 4 ∧ (toh b).2 = false ∧ (tos b).2 = true ∧ L.length = 5) ∨ (kn = 4 ∧ (toh b).2 = false ∧ (tos b).2 = false ∧ L.length = 9))
    (w : World) (hT : Tb w)
    (n1 : ∀ W, Tb W → Calls Tryz.prog 104 #[.int .u64 (b : Nat)] W fun e w' => e = .returned (V10 kn gn (lb 0 xn) (lb 1 xn) (lb 2 xn) (lb 3 xn) bn ⟨#[]⟩ none 0 0 none 0 0) ∧ Below W.heap.size W w')
    (n2 : ∀ W, Tb W → Calls Tryz.prog 104 #[.int .u64 (can b : Nat)] W fun e w' => e = .returned (V10 kn gn (lb 0 xn) (lb 1 xn) (lb 2 xn) (lb 3 xn) bn ⟨#[]⟩ none 0 0 none 0 0) ∧ Below W.heap.size W w')
    (n3 : ∀ W, Calls Tryz.prog 13 #[.int .u64 (b : Nat)] W fun e w' => e = .returned (V10 kn gn (lb 0 xn) (lb 1 xn) (lb 2 xn) (lb 3 xn) bn ⟨#[]⟩ none 0 0 none 0 0) ∧ Below W.heap.size W w')
    (n4 : ∀ W, Tb W → Calls Tryz.prog 19 #[V10 kn gn (lb 0 xn) (lb 1 xn) (lb 2 xn) (lb 3 xn) bn ⟨#[]⟩ none 0 0 none 0 0] W fun e w' => e = .returned (.int .i64 0) ∧ Below W.heap.size W w')
    (n5 : ∀ W base, base ≤ W.heap.size → Calls Tryz.prog 20 #[.slice none 0 0, V10 kn gn (lb 0 xn) (lb 1 xn) (lb 2 xn) (lb 3 xn) bn ⟨#[]⟩ none 0 0 none 0 0] W fun e w' => ∃ v', e = .returned v' ∧ Bo w' base v' L ∧ Onto W w' (.slice none 0 0) v') :
    Calls Tryz.prog 4 #[.int .u64 (b : Nat)] w fun e w' => e = .returned (.bool true) ∧ Below w.heap.size w w' := by
  have l1 := tosw_lt hb
  have l2 := tohw_lt hb
  refine floats_core b hb kn gn (lb 0 xn) (lb 1 xn) (lb 2 xn) (lb 3 xn) bn L.length (tos b).1 (toh b).1 (tos b).2 (toh b).2 l1 l2 hcase w hT ?_ n3 ?_ ?_ (fun W => rthin_Single (b : Int) _ _ (by omega) (by omega) W (fun W => rthin24 b hb W)) ?_ (fun W => rthin_Half (b : Int) _ _ (by omega) (by omega) W (fun W => rthin11 b hb W)) ?_
  · intro W gg cap hW hq
    exact dec_float 27 b b (Or.inr (Or.inr ⟨rfl, hb, rfl⟩)) kn gn _ _ _ _ bn gg 0 cap 9 (by rw [hby_len]; rfl) W hq (fun W2 => ⟨fun h => absurd h (by decide), fun h => absurd h (by decide)⟩) (fun W2 h2 => n1 W2 (tb_on (tb_on hT hW) h2))
  · intro W
    have h := rsame (leafG kn gn xn bn) (leafG kn gn xn bn) W (leafG_in hk hx hbn W) (leafG_in hk hx hbn W)
    rw [leafG_same] at h
    exact h
  · intro W hW
    refine (enc_ok kn gn (lb 0 xn) (lb 1 xn) (lb 2 xn) (lb 3 xn) bn ⟨#[]⟩ none 0 0 none 0 0 L hL0 hL1 W (fun W2 h2 => n4 W2 (tb_on (tb_on hT hW) h2)) (fun W2 h2 => ?_)).mono ?_
    · exact n5 W2 _ h2.size
    · rintro e w' ⟨v', rfl, hB, hb⟩
      obtain ⟨gg, cap, rfl, _⟩ := hB.some hL0
      exact ⟨gg, cap, rfl, hb⟩
  · intro W gg h hW hq
    obtain ⟨h1, h2⟩ := tos_sng hb h
    rw [can_eq] at h2
    refine dec_float 26 (tos b).1 (can b) (Or.inr (Or.inl ⟨rfl, h1⟩)) kn gn _ _ _ _ bn gg 0 5 5 (by rw [hby_len]; rfl) W hq (fun W2 => ⟨fun h => absurd h (by decide), fun _ => ?_⟩) (fun W2 h3 => n2 W2 (tb_on (tb_on hT hW) h3))
    have h3 := single_any (tos b).1 h1 W2
    rw [h2] at h3
    exact drew_under h3
  · intro W gg h hW hq
    have h2 := toh_hlf h
    rw [can_eq] at h2
    refine dec_float 25 (toh b).1 (can b) (Or.inl ⟨rfl, l2⟩) kn gn _ _ _ _ bn gg 0 3 3 (by rw [hby_len]; rfl) W hq (fun W2 => ⟨fun _ => ?_, fun h => absurd h (by decide)⟩) (fun W2 h3 => n2 W2 (tb_on (tb_on hT hW) h3))
    have h3 := half_any (toh b).1 l2 W2
    rw [h2] at h3
    exact same_under h3
theorem floats_any (b : Nat) (hb : b < 18446744073709551616) (w : World) (hT : Tb w) :
    Calls Tryz.prog 4 #[.int .u64 (b : Nat)] w fun e w' => e = .returned (.bool true) ∧ Below w.heap.size w w' := by
  have hw1 := fun W hW => whole_any b hb W hW
  have hw2 := fun W => rfwhole b hb W
  have hc := can_lt b hb
  have hw3 := fun W hW => whole_any (can b) hc W hW
  unfold WEnd at hw1 hw2 hw3
  cases hw : whl b with
  | some n =>
    have hr : rg b ≤ INF ∧ n < 2 ^ 256 := by
      unfold whl at hw
      split at hw
      · rename_i h; cases hw; exact ⟨by omega, h.2.2⟩
      · cases hw
    have hn := hr.2
    have hcb := can_id hr.1
    rw [hw] at hw1 hw2
    obtain ⟨z, hz⟩ : ∃ z : Int, z = if sg b = 1 then -(n : Int) else n := ⟨_, rfl⟩
    have hz2 : z.natAbs < 2 ^ 256 := by rw [hz]; split <;> omega
    simp only at hw1 hw2
    rw [← hz] at hw1 hw2
    have hl := intB_len (g := decide (z < 0)) hz2
    have n1 : ∀ W, Tb W → Calls Tryz.prog 104 #[.int .u64 (b : Nat)] W fun e w' => e = .returned (V10 3 (decide (z < 0)) (lb 0 z.natAbs) (lb 1 z.natAbs) (lb 2 z.natAbs) (lb 3 z.natAbs) 0 ⟨#[]⟩ none 0 0 none 0 0) ∧ Below W.heap.size W w' :=
      fun W hW => number_yes b _ _ _ _ _ W fun W' hb' => hw1 W' (tb_on hW hb')
    refine floats_of b hb 3 (decide (z < 0)) z.natAbs 0 (intB (decide (z < 0)) z.natAbs) (by omega) hz2 (by omega) hl.1 (by omega) (Or.inl ⟨rfl, hl.1⟩) w hT n1 (by rw [hcb]; exact n1) (fun W => rnumber_yes b _ _ _ _ _ W fun W' _ => hw2 W') (fun W hW => ?_) (fun W base hbase => ?_)
    · have := vmay (leafG 3 (decide (z < 0)) z.natAbs 0) (by rw [leafG_nodes]; omega) W (leafG_q (by omega) hz2 (by omega) W hW)
      rw [leafG_may (.inl rfl) (whole_own z hz2)] at this
      exact this
    · exact aval_int (decide (z < 0)) z.natAbs (fun h => by have := of_decide_eq_true h; omega) hz2 0 ⟨#[]⟩ none 0 0 none 0 0 (.slice none 0 0) [] base W hbase (Bo.nil _ _) (by decide)
  | none =>
    have hwc : whl (can b) = none := by
      by_cases h : INF < rg b
      · rw [can_nan h]; decide +kernel
      · rw [can_id (by omega)]; exact hw
    rw [hw] at hw1 hw2
    rw [hwc] at hw3
    simp only at hw1 hw2 hw3
    have e : V10 4 false (lb 0 0) (lb 1 0) (lb 2 0) (lb 3 0) ((can b : Nat) : Int) ⟨#[]⟩ none 0 0 none 0 0 = V10 4 false 0 0 0 0 ((can b : Nat) : Int) ⟨#[]⟩ none 0 0 none 0 0 := by simp only [lb_zero]
    have hl := fltB_len b
    refine floats_of b hb 4 false 0 (can b : Nat) (fltB b) (by omega) (by omega) (by omega) hl.1 (by omega) ?_ w hT ?_ ?_ ?_ ?_ ?_
    · refine Or.inr ?_
      unfold fltB
      cases h1 : (toh b).2 with
      | true => exact Or.inl ⟨rfl, rfl, by rw [if_pos rfl, hby_len]; rfl⟩
      | false =>
        cases h2 : (tos b).2 with
        | true => exact Or.inr (Or.inl ⟨rfl, rfl, rfl, by rw [if_neg (by decide), if_pos rfl, hby_len]; rfl⟩)
        | false => exact Or.inr (Or.inr ⟨rfl, rfl, rfl, by rw [if_neg (by decide), if_neg (by decide), hby_len]; rfl⟩)
    · rw [e]
      exact fun W hW => number_no b _ W (fun W' hb' => hw1 W' (tb_on hW hb')) (fun W' => (canon_any b hb W').mono fun _ _ h => ⟨h.1, h.2.symm⟩)
    · rw [e]
      exact fun W hW => number_no (can b : Nat) _ W (fun W' hb' => hw3 W' (tb_on hW hb')) (fun W' => (canon_any (can b) hc W').mono fun _ _ h => ⟨by rw [can_can] at h; exact h.1, h.2.symm⟩)
    · rw [e]
      exact fun W => rnumber_no b _ W (fun W' _ => hw2 W') (fun W' _ => rcanon b hb W')
    · intro W hW
      have := vmay (leafG 4 false 0 (can b : Nat)) (by rw [leafG_nodes]; omega) W (leafG_q (by omega) (by omega) (by omega) W hW)
      rw [leafG_may (.inr rfl) (float_own b hw)] at this
      exact this
    · intro W base hbase
      have h := aval_float (can b) hc false (lb 0 0) (lb 1 0) (lb 2 0) (lb 3 0) ⟨#[]⟩ none 0 0 none 0 0 (.slice none 0 0) [] base W hbase (Bo.nil _ _) (by decide)
      rw [fltB_can] at h
      exact h
theorem floats_int (b : Int) (h0 : 0 ≤ b) (h1 : b ≤ 18446744073709551615) (w : World) (hT : Tb w) :
    Calls Tryz.prog 4 #[.int .u64 b] w fun e w' => e = .returned (.bool true) ∧ Below w.heap.size w w' := by
  obtain ⟨b, rfl⟩ := Int.eq_ofNat_of_zero_le h0
  exact floats_any b (by omega) w hT
end Go.Proofs.YtpgpodjmdflmeaaGreatDoor
