/-
  DyBack, one behind the other: a claim holds at most 60 files.
-/
import Derived.Test.YtebfggiodhaahaaGreatDoorGP
import Derived.Test.YtebfggiodhaahaaGreatDoorGD
import Derived.Test.YtebfggiodhaahaaGreatDoorPtxLen
section
namespace Go.Proofs.YtebfggiodhaahaaGreatDoor
open Go.RowKit Go.Shelf

theorem isD_dfig {c : UInt8} (h : isD c) : dfig c = true := by unfold dfig; unfold isD at h; exact decide_eq_true h
theorem dfig_dec (x : Nat) : ∀ c ∈ Lib.decDigits x, dfig c = true := fun c hc => isD_dfig (dec_isD (x + 1) x (by omega) c hc)
theorem dfig_padl (x k : Nat) : ∀ c ∈ padl (Lib.decDigits x) k, dfig c = true := by
  intro c hc
  unfold padl at hc
  rw [List.mem_append] at hc
  rcases hc with hc | hc
  · rw [List.mem_replicate] at hc
    rw [hc.2]; rfl
  · exact dfig_dec x c hc
theorem takeWhile_all {p : UInt8 → Bool} : ∀ {l : List UInt8} (m : List UInt8), (∀ c ∈ l, p c = true) → (l ++ m).takeWhile p = l ++ m.takeWhile p
  | [], m, _ => rfl
  | c :: l, m, h => by
    rw [List.cons_append, List.takeWhile_cons, if_pos (h c (by simp)), takeWhile_all m (fun d hd => h d (by simp [hd]))]
    rfl
theorem dropWhile_all {p : UInt8 → Bool} : ∀ {l : List UInt8} (m : List UInt8), (∀ c ∈ l, p c = true) → (l ++ m).dropWhile p = m.dropWhile p
  | [], m, _ => rfl
  | c :: l, m, h => by
    rw [List.cons_append, List.dropWhile_cons, if_pos (h c (by simp)), dropWhile_all m (fun d hd => h d (by simp [hd]))]
theorem figs_point {A B : List UInt8} (hA : ∀ c ∈ A, dfig c = true) : figs (A ++ 46 :: B) = A ∧ rst (A ++ 46 :: B) = 46 :: B := by
  unfold figs rst
  rw [takeWhile_all _ hA, dropWhile_all _ hA]
  refine ⟨?_, rfl⟩
  rw [List.takeWhile_cons, if_neg (by decide), List.append_nil]
theorem figs_only {A : List UInt8} (hA : ∀ c ∈ A, dfig c = true) : figs A = A ∧ rst A = [] := by
  have h1 := takeWhile_all (p := dfig) [] hA
  have h2 := dropWhile_all (p := dfig) [] hA
  rw [List.append_nil] at h1 h2
  unfold figs rst
  rw [h1, h2]
  exact ⟨List.append_nil _, rfl⟩
theorem mns_sign {s : Nat} {l : List UInt8} (hs : s < 2) (hl : ∀ c t, l = c :: t → dfig c = true) : mns ((if s = 1 then [45] else []) ++ l) = (s == 1, l) := by
  have hc : s = 0 ∨ s = 1 := by omega
  rcases hc with h | h
  · subst h
    rw [if_neg (by decide), List.nil_append]
    rw [mns_no]
    · rfl
    · rintro ⟨t, rfl⟩
      have := hl 45 t rfl
      revert this; decide
  · subst h
    rw [if_pos rfl]
    rfl
theorem dec_end {x : Nat} (h : x % 10 = 5) : ∃ l, Lib.decDigits x = l ++ [53] := by
  by_cases h10 : x < 10
  · exact ⟨[], by rw [dec_small h10, show x = 5 from by omega]; rfl⟩
  · exact ⟨Lib.decDigits (x / 10), by rw [dec_step (by omega), h]; rfl⟩
theorem tr0_five (l : List UInt8) : tr0 (l ++ [53]) = l ++ [53] := by
  unfold tr0
  rw [List.reverse_append, List.reverse_singleton, List.singleton_append, List.dropWhile_cons, if_neg (by decide), List.reverse_cons, List.reverse_reverse]
theorem tl0_pad {l : List UInt8} (k : Nat) (h : ∃ c t, l = c :: t ∧ c ≠ 48) : tl0 (List.replicate k 48 ++ l) = l := by
  obtain ⟨c, t, rfl, hc⟩ := h
  unfold tl0
  rw [dropWhile_all _ (by intro d hd; rw [List.mem_replicate] at hd; rw [hd.2]; rfl), List.dropWhile_cons, if_neg (by rw [beq_iff_eq]; exact hc)]
/-- Digits with a point, and a sign ahead, as read takes them. -/
theorem rd_print {s x K : Nat} (hs : s < 2) (h5 : x % 10 = 5) (hK : 1 ≤ K) : rd ((if s = 1 then [45] else []) ++ wpt (Lib.decDigits x) K) = some (s == 1, Lib.decDigits x, -(K : Int)) := by
  have hp := padl_len (Lib.decDigits x) K
  have hall := dfig_padl x K
  obtain ⟨l, hl⟩ := dec_end h5
  obtain ⟨c, t, hc, hc0⟩ := dec_head (x + 1) x (by omega) (by omega)
  have hpe : padl (Lib.decDigits x) K = List.replicate (K + 1 - (Lib.decDigits x).length) 48 ++ Lib.decDigits x := rfl
  have htr : tr0 (padl (Lib.decDigits x) K) = padl (Lib.decDigits x) K := by
    rw [hpe, hl, ← List.append_assoc, tr0_five]
  have htl : tl0 (padl (Lib.decDigits x) K) = Lib.decDigits x := by
    rw [hpe]
    exact tl0_pad _ ⟨c, t, hc, hc0⟩
  have hone : (padl (Lib.decDigits x) K).length - K ≤ 1 ∨ (padl (Lib.decDigits x) K) = c :: t := by
    by_cases hd : (Lib.decDigits x).length ≤ K + 1
    · left; omega
    · right
      rw [hpe, show K + 1 - (Lib.decDigits x).length = 0 from by omega, hc]; rfl
  unfold wpt
  generalize padl (Lib.decDigits x) K = P at *
  obtain ⟨A, hA⟩ : ∃ A, A = P.take (P.length - K) := ⟨_, rfl⟩
  obtain ⟨B, hB⟩ : ∃ B, B = P.drop (P.length - K) := ⟨_, rfl⟩
  have hAB : A ++ B = P := by rw [hA, hB]; exact List.take_append_drop _ _
  have lA : A.length = P.length - K := by rw [hA, List.length_take]; omega
  have lB : B.length = K := by rw [hB, List.length_drop]; omega
  rw [← hA, ← hB, List.append_assoc, List.singleton_append]
  have dA : ∀ c ∈ A, dfig c = true := fun c h => hall c (by rw [← hAB]; exact List.mem_append_left _ h)
  have dB : ∀ c ∈ B, dfig c = true := fun c h => hall c (by rw [← hAB]; exact List.mem_append_right _ h)
  obtain ⟨fA, rA⟩ := figs_point (B := B) dA
  obtain ⟨fB, rB⟩ := figs_only dB
  have nA : A ≠ [] := by intro h; rw [h] at lA; simp only [List.length_nil] at lA; omega
  have nB : B ≠ [] := by intro h; rw [h] at lB; simp only [List.length_nil] at lB; omega
  have hm := mns_sign (l := A ++ 46 :: B) hs (by
    intro c t h
    cases A with
    | nil => exact absurd rfl nA
    | cons a A => rw [List.cons_append] at h; injection h with h1 _; rw [← h1]; exact dA a (by simp))
  unfold rd
  simp only
  rw [hm]
  simp only
  rw [fA, rA, bhd_yes]
  simp only
  rw [fB, rB]
  rw [if_neg (by
    rintro (h | ⟨h1, h2⟩)
    · exact nA h
    · rcases hone with h | h
      · omega
      · cases A with
        | nil => exact nA rfl
        | cons a A =>
          rw [h, List.cons_append] at hAB
          injection hAB with h3 _
          rw [List.take_succ_cons, List.take_zero] at h2
          injection h2 with h2 _
          exact hc0 (by rw [← h3, h2]))]
  rw [if_neg (by cases B with | nil => exact absurd rfl nB | cons b B => show ¬ ((true : Bool) = false); decide)]
  rw [hAB, htr, htl]
  show (match some (0 : Int) with | none => none | some e => some (s == 1, Lib.decDigits x, e + (A.length : Int) - (P.length : Int))) = _
  simp only
  rw [show (0 : Int) + (A.length : Int) - (P.length : Int) = -(K : Int) from by omega]
theorem five_odd {m K : Nat} (hK : 1 ≤ K) : ((2 * m + 1) * 5 ^ K) % 10 = 5 := by
  have h2 : ((2 * m + 1) * 5 ^ K) % 2 = 1 := by
    rw [Nat.mul_mod, Nat.pow_mod, show 5 % 2 = 1 from rfl, Nat.one_pow]
    omega
  have h5 : ((2 * m + 1) * 5 ^ K) % 5 = 0 := by
    obtain ⟨j, rfl⟩ : ∃ j, K = j + 1 := ⟨K - 1, by omega⟩
    rw [Nat.pow_succ, ← Nat.mul_assoc, Nat.mul_mod_left]
  omega
/-- What Print writes, Parse reads. -/
theorem dpans_ptx {b : Nat} (hb : b < 18446744073709551616) (hc : cls b = 1) : dpans (ptx b) = .tuple #[VV 4 false 0 (b : Nat), .int .i64 0] := by
  have hlen := ptx_len hc
  obtain ⟨d, m, K, hd, hK1, hK2, hB, hl, ho, hw, hf⟩ := plain_parts hc
  have hd0 : d ≠ 0 := by omega
  have hd53 := odd_small hd0 hl
  have hx := five_fit hd53 hK2
  obtain ⟨hs2, hsg⟩ := sg_two hb
  have hx5 : (d * 5 ^ K) % 10 = 5 := by rw [hd]; exact five_odd hK1
  have hrd : rd (ptx b) = some (sg b == 1, Lib.decDigits (d * 5 ^ K), -(K : Int)) := by
    unfold ptx
    rw [ho, hB]
    exact rd_print hs2 hx5 hK1
  have hne : Lib.decDigits (d * 5 ^ K) ≠ [] := by
    intro h
    have := dec_pos (d * 5 ^ K)
    rw [h] at this
    exact absurd this (by decide)
  have hpn : parseN (str (Lib.decDigits (d * 5 ^ K))) = some (d * 5 ^ K) := parseN_dec (str_data _) hx
  have htz : tz d = 0 := tz_unique (m := m) (Nat.lt_trans hd53 (by decide)) (by rw [Nat.pow_zero, Nat.one_mul]; exact hd)
  have hdiv : d * 5 ^ K / 5 ^ K = d := Nat.mul_div_cancel _ (Nat.pow_pos (by decide))
  have hwb : wby (sg b == 1) d (-(K : Int)) = b := by
    unfold wby
    rw [htz, Nat.pow_zero, Nat.div_one, show ((0 : Nat) : Int) + -(K : Int) = -(K : Int) from by omega, hsg]
    exact hw.symm
  have hex : exq d = true := by
    unfold exq
    rw [htz]
    have := blen_le (x := d) (k := 53) hd53
    exact decide_eq_true (by omega)
  have hpl : plv (sg b == 1) (d * 5 ^ K) (-(K : Int)) = some b := by
    unfold plv
    rw [show (- -(K : Int)).toNat = K from by omega, hdiv, hwb]
    exact if_pos ⟨Nat.dvd_mul_left _ _, hex, hc⟩
  unfold dpans
  rw [if_neg (by omega), hrd]
  simp only
  rw [if_neg hne, hpn]
  simp only
  unfold dpv
  rw [if_neg (by omega), hpl]
end Go.Proofs.YtebfggiodhaahaaGreatDoor
end
