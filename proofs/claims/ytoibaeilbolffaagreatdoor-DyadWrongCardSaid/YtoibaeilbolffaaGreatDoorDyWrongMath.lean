/-
  entrepotlaw4.DyadWrong: what is no number, and a whole number's digits.
-/
import Derived.Test.YtoibaeilbolffaaGreatDoorDyTold
import Derived.Test.YtoibaeilbolffaaGreatDoorDyBack
namespace Go.Proofs.YtoibaeilbolffaaGreatDoor
open Go.RowKit Go.Shelf

theorem rd_no {l : List UInt8} (h : figs (mns l).2 = []) : rd l = none := by
  unfold rd
  simp only
  rw [if_pos (Or.inl h)]
theorem rd_tail {D R : List UInt8} (hD : ∀ c ∈ D, dfig c = true) (h0 : D ≠ []) (hR : ∀ c t, R = c :: t → dfig c = false) (h : (bhd R).2.2 = false ∨ expo (bhd R).2.1 = none) : rd (D ++ R) = none := by
  have hm := mns_sign (s := 0) (l := D ++ R) (by decide) (by
    intro c t e
    cases D with
    | nil => exact absurd rfl h0
    | cons a D => rw [List.cons_append] at e; injection e with h1 _; rw [← h1]; exact hD a (by simp))
  rw [if_neg (by decide), List.nil_append] at hm
  have fR : figs (D ++ R) = D ∧ rst (D ++ R) = R := by
    unfold figs rst
    rw [takeWhile_all _ hD, dropWhile_all _ hD]
    cases R with
    | nil => exact ⟨by simp, rfl⟩
    | cons c t =>
      have := hR c t rfl
      rw [List.takeWhile_cons, List.dropWhile_cons, this]
      exact ⟨by simp, by simp⟩
  unfold rd
  simp only
  rw [hm]
  simp only
  rw [fR.1, fR.2]
  split
  · rfl
  · split
    · rfl
    · rename_i hb
      rcases h with h | h
      · exact absurd h hb
      · rw [h]
theorem rd_lead {D : List UInt8} (hD : ∀ c ∈ D, dfig c = true) (h0 : D ≠ []) : rd (48 :: D) = none := by
  have hm := mns_sign (s := 0) (l := 48 :: D) (by decide) (by intro c t e; injection e with h1 _; rw [← h1]; rfl)
  rw [if_neg (by decide), List.nil_append] at hm
  have hf := (figs_only (A := 48 :: D) (by
    intro c hc
    rw [List.mem_cons] at hc
    rcases hc with h | h
    · rw [h]; rfl
    · exact hD c h)).1
  unfold rd
  simp only
  rw [hm]
  simp only
  rw [hf, if_pos (Or.inr ⟨by
    cases D with
    | nil => exact absurd rfl h0
    | cons a D => simp, rfl⟩)]
/-- The twenty spoilt texts. -/
def spl (D : List UInt8) : Nat → List UInt8
  | 0 => 43 :: D
  | 1 => 45 :: 45 :: D
  | 2 => 48 :: D
  | 3 => D ++ [46]
  | 4 => 46 :: D
  | 5 => D ++ [101]
  | 6 => D ++ [101, 43]
  | 7 => D ++ [46, 101, 49]
  | 8 => D ++ [32]
  | 9 => 32 :: D
  | 10 => [45]
  | 11 => []
  | 12 => D ++ [102]
  | 13 => 48 :: 120 :: D
  | 14 => D ++ [95, 48]
  | 15 => [45, 46, 53]
  | 16 => [49, 101, 49, 46, 53]
  | 17 => [78, 97, 78]
  | 18 => [73, 110, 102, 105, 110, 105, 116, 121]
  | _ => D ++ [46, 48, 46, 48]
theorem head_of {c : UInt8} {l : List UInt8} (h : dfig c = false) : ∀ d t, c :: l = d :: t → dfig d = false := by
  intro d t e; injection e with h1 _; rw [← h1]; exact h
theorem rd_spoilt {D : List UInt8} (hD : ∀ c ∈ D, dfig c = true) (h0 : D ≠ []) (k : Nat) : rd (spl D k) = none := by
  unfold spl
  split
  · exact rd_no rfl
  · exact rd_no rfl
  · exact rd_lead hD h0
  · exact rd_tail hD h0 (head_of rfl) (Or.inl rfl)
  · exact rd_no rfl
  · exact rd_tail hD h0 (head_of rfl) (Or.inr (by decide +kernel))
  · exact rd_tail hD h0 (head_of rfl) (Or.inr (by decide +kernel))
  · exact rd_tail hD h0 (head_of rfl) (Or.inl (by decide +kernel))
  · exact rd_tail hD h0 (head_of rfl) (Or.inr (by decide +kernel))
  · exact rd_no rfl
  · decide +kernel
  · decide +kernel
  · exact rd_tail hD h0 (head_of rfl) (Or.inr (by decide +kernel))
  · exact rd_tail (D := [48]) (by intro c hc; rw [List.mem_singleton] at hc; rw [hc]; rfl) (by decide) (head_of rfl) (Or.inr (by
      show expo (120 :: D) = none
      unfold expo
      exact if_neg (by decide)))
  · exact rd_tail hD h0 (head_of rfl) (Or.inr (by decide +kernel))
  · decide +kernel
  · decide +kernel
  · decide +kernel
  · decide +kernel
  · exact rd_tail hD h0 (head_of rfl) (Or.inr (by decide +kernel))
theorem dgs_zeros : ∀ (k v : Nat), dgs (List.replicate k 48) v = some (v * 10 ^ k)
  | 0, v => by simp [dgs]
  | k + 1, v => by
    rw [List.replicate_succ]
    simp only [dgs]
    rw [if_pos (by unfold isD; decide), dgs_zeros k, show (48 : UInt8).toNat = 48 from rfl, Nat.sub_self, Nat.add_zero, Nat.pow_succ, Nat.mul_assoc, Nat.mul_comm 10]
theorem drop_rep : ∀ (l : List UInt8), ∃ k, l = List.replicate k 48 ++ l.dropWhile (· == 48)
  | [] => ⟨0, rfl⟩
  | c :: t => by
    by_cases h : c = 48
    · obtain ⟨k, hk⟩ := drop_rep t
      refine ⟨k + 1, ?_⟩
      rw [List.dropWhile_cons, if_pos (by rw [h]; rfl), List.replicate_succ, List.cons_append, h, ← hk]
    · exact ⟨0, by rw [List.dropWhile_cons, if_neg (by rw [beq_iff_eq]; exact h)]; rfl⟩
/-- Noughts at the end, and what stands ahead of them. -/
theorem tr0_form (l : List UInt8) : ∃ k, l = tr0 l ++ List.replicate k 48 := by
  obtain ⟨k, hk⟩ := drop_rep l.reverse
  refine ⟨k, ?_⟩
  have := congrArg List.reverse hk
  rw [List.reverse_reverse, List.reverse_append, List.reverse_replicate] at this
  exact this
/-- A whole number's digits, as Parse reads them. -/
theorem dpans_dec {n : Nat} (hn : n < 2 ^ 64) : dpans (Lib.decDigits n) = .tuple #[VV 3 false n 0, .int .i64 0] := by
  have hD := dfig_dec n
  have hdl := dec_len (k := 20) (r := n) (by decide) (Nat.lt_trans hn (by decide))
  have hpos := dec_pos n
  have hm := mns_sign (s := 0) (l := Lib.decDigits n) (by decide) (fun c t e => hD c (by rw [e]; simp))
  rw [if_neg (by decide), List.nil_append] at hm
  obtain ⟨fD, rD⟩ := figs_only hD
  have h48 : n = 0 ∨ ¬ ((Lib.decDigits n) = [] ∨ (1 < (Lib.decDigits n).length ∧ (Lib.decDigits n).take 1 = [48])) := by
    by_cases h : n = 0
    · exact Or.inl h
    · right
      obtain ⟨c, t, hc, hc0⟩ := dec_head (n + 1) n (by omega) h
      rw [hc]
      rintro (h1 | ⟨_, h2⟩)
      · cases h1
      · rw [List.take_succ_cons, List.take_zero] at h2
        injection h2 with h2 _
        exact hc0 h2
  by_cases h0 : n = 0
  · subst h0
    rw [dec_small (by decide)]
    unfold dpans
    rw [if_neg (by decide), show rd [UInt8.ofNat (48 + 0)] = some (false, [], 1) from by decide +kernel]
    simp only
    rw [if_pos trivial]
  · have hnn := h48.resolve_left h0
    obtain ⟨k, hk⟩ := tr0_form (Lib.decDigits n)
    obtain ⟨c, t, hc, hc0⟩ := dec_head (n + 1) n (by omega) h0
    have hdg := dgs_dec (n + 1) n (by omega)
    obtain ⟨X, hX⟩ : ∃ X, tr0 (Lib.decDigits n) = X := ⟨_, rfl⟩
    rw [hX] at hk
    have hXne : X ≠ [] := by
      intro h
      rw [h, List.nil_append, hc] at hk
      cases k with
      | zero => cases hk
      | succ k => rw [List.replicate_succ] at hk; injection hk with h1 _; exact hc0 h1
    have hXh : ∀ x t, X = x :: t → x ≠ 48 := by
      intro x t e
      rw [e, hc, List.cons_append] at hk
      injection hk with h1 _
      rw [← h1]; exact hc0
    have hXl : tl0 X = X := by
      cases X with
      | nil => rfl
      | cons x X =>
        rw [hc, List.cons_append] at hk
        injection hk with h1 _
        unfold tl0
        rw [List.dropWhile_cons, if_neg (by rw [beq_iff_eq, ← h1]; exact hc0)]
    have hlen : (Lib.decDigits n).length = X.length + k := by
      have := congrArg List.length hk
      rw [List.length_append, List.length_replicate] at this
      exact this
    have hrd : rd (Lib.decDigits n) = some (false, X, (k : Int)) := by
      unfold rd
      simp only
      rw [hm]
      simp only
      rw [fD, rD, if_neg hnn]
      show (if true = false then none else match some (0 : Int) with | none => none | some e => some (0 == 1, tl0 (tr0 (Lib.decDigits n ++ [])), e + (Lib.decDigits n).length - (tr0 (Lib.decDigits n ++ [])).length)) = _
      rw [if_neg (by decide)]
      simp only
      rw [List.append_nil, hX, hXl, hlen, show (0 : Int) + ((X.length + k : Nat) : Int) - (X.length : Int) = (k : Int) from by omega]
      rfl
    rw [hk, dgs_app] at hdg
    cases hv : dgs X 0 with
    | none => rw [hv] at hdg; cases hdg
    | some v =>
      rw [hv] at hdg
      simp only at hdg
      rw [dgs_zeros] at hdg
      have hvn : v * 10 ^ k = n := by injection hdg
      have hle : v ≤ n := by rw [← hvn]; exact Nat.le_mul_of_pos_right _ (Nat.pow_pos (by decide))
      have hpn : parseN (str X) = some v := by
        rw [parseN_dgs, str_data, hv]
        rw [if_neg]
        · exact capN_in (Nat.lt_of_le_of_lt hle (Nat.lt_trans hn (by decide)))
        · have hs := str_size X
          have : 1 ≤ X.length := by cases X with | nil => exact absurd rfl hXne | cons x X => simp
          rintro (h | ⟨h1, h2⟩)
          · omega
          · cases hXc : X with
            | nil => exact hXne hXc
            | cons x X' =>
              rw [hXc] at h2
              exact hXh x X' hXc (Option.some.inj h2)
      unfold dpans
      rw [if_neg (by omega), hrd]
      simp only
      rw [if_neg hXne, hpn]
      simp only
      unfold dpv
      rw [if_pos (by omega), Int.toNat_natCast, hvn, if_pos (Nat.lt_trans hn (by decide))]
end Go.Proofs.YtoibaeilbolffaaGreatDoor
