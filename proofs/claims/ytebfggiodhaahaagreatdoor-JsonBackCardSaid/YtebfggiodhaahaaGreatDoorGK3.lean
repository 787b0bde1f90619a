/-
  JsBkN JsBkT JsBkX JsBkC JsBkS JsBkU, one behind the other: a claim holds at most 60 files.
-/
import Derived.Test.YtebfggiodhaahaaGreatDoorGK4
import Derived.Test.YtebfggiodhaahaaGreatDoorGQ
section
namespace Go.Proofs.YtebfggiodhaahaaGreatDoor
open Go.RowKit Go.Shelf
set_option linter.unusedVariables false

/-- What may stand behind a number: nothing, a blank, a comma, an end. -/
def Stp (R : List UInt8) : Prop := ∀ c t, R = c :: t → dfig c = false ∧ c ≠ 46 ∧ c ≠ 101 ∧ c ≠ 69
theorem Stp.nil : Stp [] := fun _ _ h => by cases h
theorem Stp.of {c : UInt8} {t : List UInt8} (h : dfig c = false ∧ c ≠ 46 ∧ c ≠ 101 ∧ c ≠ 69) : Stp (c :: t) := fun d u e => by cases e; exact h
theorem Stp.rst {R : List UInt8} (h : Stp R) : rst R = R := by
  cases R with
  | nil => rfl
  | cons c t =>
    unfold Go.Proofs.YtebfggiodhaahaaGreatDoor.rst
    rw [List.dropWhile_cons, if_neg (by rw [(h c t rfl).1]; decide)]
theorem Stp.jex {R : List UInt8} (h : Stp R) : jex R = R := by
  cases R with
  | nil => rfl
  | cons c t =>
    unfold Go.Proofs.YtebfggiodhaahaaGreatDoor.jex
    simp only
    rw [if_neg]
    rintro (e | e)
    · exact (h c t rfl).2.2.1 e
    · exact (h c t rfl).2.2.2 e
theorem Stp.jpt {R : List UInt8} (h : Stp R) : jpt R = R := by
  have hp : Lib.hasPrefix R [46] = false := by
    cases R with
    | nil => rfl
    | cons c t => exact pre_no (h c t rfl).2.1
  unfold Go.Proofs.YtebfggiodhaahaaGreatDoor.jpt cutp
  rw [hp]
  rfl
theorem digits_ne {D : List UInt8} (hD : ∀ c ∈ D, dfig c = true) {c : UInt8} {t : List UInt8} (h : D = c :: t) (k : UInt8) (hk : dfig k = false) : c ≠ k := fun e => by
  have := hD c (by rw [h]; exact List.mem_cons_self ..)
  rw [e, hk] at this
  cases this
/-- A number's digits, its sign ahead. -/
theorem tp1_sign (g : Bool) {D : List UInt8} (hD : ∀ c ∈ D, dfig c = true) (h0 : D ≠ []) (R : List UInt8) : tp1 45 ((if g then [45] else []) ++ D ++ R) = D ++ R := by
  cases g with
  | true => rfl
  | false =>
    cases D with
    | nil => exact absurd rfl h0
    | cons c t =>
      show (if c = 45 then t ++ R else c :: (t ++ R)) = _
      rw [if_neg (digits_ne hD rfl 45 (by decide))]
      rfl
theorem jrest_dig {D : List UInt8} (hD : ∀ c ∈ D, dfig c = true) (h0 : D ≠ []) (h1 : D = [48] ∨ ∃ c t, D = c :: t ∧ c ≠ 48) (R : List UInt8) (hR : rst R = R) : jrest (D ++ R) = R := by
  rcases h1 with rfl | ⟨c, t, rfl, hc⟩
  · rfl
  · show (if c = 48 then t ++ R else rst (c :: (t ++ R))) = R
    rw [if_neg hc]
    show rst ((c :: t) ++ R) = R
    unfold rst
    rw [dropWhile_all _ hD]
    exact hR
theorem figs_dig {D : List UInt8} (hD : ∀ c ∈ D, dfig c = true) (h0 : D ≠ []) (R : List UInt8) : figs (D ++ R) ≠ [] := by
  unfold figs
  rw [takeWhile_all _ hD]
  intro h
  exact h0 (List.append_eq_nil_iff.1 h).1
theorem nsz_of {l A R : List UInt8} (hl : l = A ++ R) (h1 : figs (tp1 45 l) ≠ []) (h2 : jnum l = R) : nsz l = A.length := by
  unfold nsz
  rw [if_neg h1, h2, hl, List.length_append]
  omega
theorem nsz_int (g : Bool) (x : Nat) (R : List UInt8) (hR : Stp R) : nsz (jint g x ++ R) = (jint g x).length := by
  have hD := dfig_dec x
  have h0 : Lib.decDigits x ≠ [] := by intro h; have := dec_pos x; rw [h] at this; exact absurd this (by decide)
  have h1 : Lib.decDigits x = [48] ∨ ∃ c t, Lib.decDigits x = c :: t ∧ c ≠ 48 := by
    by_cases hx : x = 0
    · left; rw [hx, dec_small (by decide)]; rfl
    · exact Or.inr (dec_head (x + 1) x (by omega) hx)
  have ht : tp1 45 (jint g x ++ R) = Lib.decDigits x ++ R := tp1_sign g hD h0 R
  refine nsz_of rfl (by rw [ht]; exact figs_dig hD h0 R) ?_
  unfold jnum
  rw [ht, jrest_dig hD h0 h1 R hR.rst, hR.jpt, hR.jex]
/-- A whole number's digits: what ends in no nought, and the noughts. -/
theorem dec_noughts : ∀ (n x : Nat), x < n → x ≠ 0 → ∃ y k, x = y * 10 ^ k ∧ y % 10 ≠ 0 ∧ Lib.decDigits x = Lib.decDigits y ++ List.replicate k 48 := by
  intro n
  induction n with
  | zero => intro x h; omega
  | succ n ih =>
    intro x h hx
    by_cases h0 : x % 10 = 0
    · obtain ⟨y, k, h1, h2, h3⟩ := ih (x / 10) (by omega) (by omega)
      refine ⟨y, k + 1, ?_, h2, ?_⟩
      · rw [Nat.pow_succ, ← Nat.mul_assoc, ← h1]; omega
      · rw [dec_step (show 10 ≤ x by omega), h3, h0, List.append_assoc, List.replicate_succ']
        rfl
    · exact ⟨x, 0, by simp, h0, by simp⟩
theorem tr0_noughts {l : List UInt8} {c : UInt8} (hc : c ≠ 48) (k : Nat) : tr0 (l ++ [c] ++ List.replicate k 48) = l ++ [c] := by
  unfold tr0
  rw [List.reverse_append, List.reverse_replicate, dropWhile_all _ (by intro d hd; rw [List.mem_replicate] at hd; rw [hd.2]; rfl), List.reverse_append, List.reverse_singleton, List.singleton_append, List.dropWhile_cons, if_neg (by rw [beq_iff_eq]; exact hc), List.reverse_cons, List.reverse_reverse]
theorem tl0_head' {l : List UInt8} {c : UInt8} {t : List UInt8} (h : l = c :: t) (hc : c ≠ 48) : tl0 l = l := by
  rw [h]
  unfold tl0
  rw [List.dropWhile_cons, if_neg (by rw [beq_iff_eq]; exact hc)]
theorem rd_int (g : Bool) {x : Nat} (hx : x ≠ 0) : ∃ (y k : Nat), x = y * 10 ^ k ∧ y ≠ 0 ∧ rd (jint g x) = some (g, Lib.decDigits y, (k : Int)) := by
  obtain ⟨y, k, h1, h2, h3⟩ := dec_noughts (x + 1) x (by omega) hx
  have hD := dfig_dec x
  obtain ⟨c, t, hc, hc0⟩ := dec_head (x + 1) x (by omega) hx
  have hy : y ≠ 0 := by intro h; rw [h] at h2; exact h2 rfl
  obtain ⟨c2, t2, hcy, hcy0⟩ := dec_head (y + 1) y (by omega) hy
  have hm : mns (jint g x) = (g, Lib.decDigits x) := by
    have := mns_sign (s := if g then 1 else 0) (l := Lib.decDigits x) (by split <;> decide) (fun c t h => hD c (by rw [h]; exact List.mem_cons_self ..))
    cases g <;> simpa [jint] using this
  obtain ⟨f1, f2⟩ := figs_only hD
  have ht : tr0 (Lib.decDigits x) = Lib.decDigits y := by
    obtain ⟨l, d, hl, hd⟩ : ∃ l d, Lib.decDigits y = l ++ [d] ∧ d ≠ 48 := by
      have hu : UInt8.ofNat (48 + y % 10) ≠ 48 := by
        intro h
        have := congrArg UInt8.toNat h
        rw [u8n (by omega)] at this
        have h48 : (48 : UInt8).toNat = 48 := rfl
        omega
      by_cases h10 : 10 ≤ y
      · exact ⟨_, _, dec_step h10, hu⟩
      · refine ⟨[], UInt8.ofNat (48 + y), ?_, ?_⟩
        · rw [dec_small (by omega)]; rfl
        · rw [show 48 + y = 48 + y % 10 by omega]; exact hu
    rw [h3, hl, tr0_noughts hd]
  refine ⟨y, k, h1, hy, ?_⟩
  unfold rd
  rw [hm]
  simp only
  rw [f1, f2, if_neg (by
    rintro (h | ⟨_, h⟩)
    · rw [hc] at h; cases h
    · rw [hc, List.take_succ_cons, List.take_zero] at h
      injection h with h _
      exact hc0 h)]
  show (if (true : Bool) = false then none else (match (some (0 : Int)) with | none => none | some e => some (g, tl0 (tr0 (Lib.decDigits x ++ [])), e + (Lib.decDigits x).length - (tr0 (Lib.decDigits x ++ [])).length))) = _
  rw [if_neg (by decide), List.append_nil, ht, tl0_head' hcy hcy0]
  simp only
  rw [h3, List.length_append, List.length_replicate]
  congr 3
  omega
/-- What is written of a whole number is read as it. -/
theorem dpans_int (g : Bool) (x : Nat) (hx : x < 2 ^ 256) (hg : g = true → x ≠ 0) : dpans (jint g x) = .tuple #[VV 3 g x 0, .int .i64 0] := by
  by_cases h0 : x = 0
  · have hg0 : g = false := by cases g with | false => rfl | true => exact absurd h0 (hg rfl)
    subst h0; subst hg0
    have : jint false 0 = [48] := by unfold jint; rw [dec_small (by decide)]; rfl
    rw [this]
    exact td0
  · obtain ⟨y, k, h1, hy, hr⟩ := rd_int g h0
    have hyx : y < 2 ^ 256 := by
      have hp : 1 ≤ 10 ^ k := Nat.pow_pos (by decide)
      have := Nat.mul_le_mul_left y hp
      rw [← h1, Nat.mul_one] at this
      omega
    have hne : Lib.decDigits y ≠ [] := by intro h; have := dec_pos y; rw [h] at this; exact absurd this (by decide)
    have hl := jint_len g x hx
    unfold dpans
    rw [if_neg (by omega), hr]
    simp only
    rw [if_neg hne, parseN_dec (str_data _) hyx]
    simp only
    unfold dpv
    rw [if_pos (by omega), Int.toNat_natCast, ← h1, if_pos hx]
theorem ptx_parts {b : Nat} (hc : cls b = 1) : ∃ (A B : List UInt8), ptx b = (if sg b == 1 then [45] else []) ++ A ++ 46 :: B ∧ (∀ c ∈ A, dfig c = true) ∧ (∀ c ∈ B, dfig c = true) ∧ A ≠ [] ∧ B ≠ [] ∧ (A = [48] ∨ ∃ c t, A = c :: t ∧ c ≠ 48) := by
  obtain ⟨d, m, K, hd, hK1, hK2, hB, hl, ho, hw, hf⟩ := plain_parts hc
  have hx : d * 5 ^ K ≠ 0 := Nat.mul_ne_zero (by omega) (Nat.pos_iff_ne_zero.1 (Nat.pow_pos (by decide)))
  obtain ⟨c, t, hcx, hc0⟩ := dec_head (d * 5 ^ K + 1) (d * 5 ^ K) (by omega) hx
  have hp := padl_len (Lib.decDigits (d * 5 ^ K)) K
  have hall := dfig_padl (d * 5 ^ K) K
  have hpe : padl (Lib.decDigits (d * 5 ^ K)) K = List.replicate (K + 1 - (Lib.decDigits (d * 5 ^ K)).length) 48 ++ Lib.decDigits (d * 5 ^ K) := rfl
  have hpos := dec_pos (d * 5 ^ K)
  refine ⟨(padl (Lib.decDigits (d * 5 ^ K)) K).take ((padl (Lib.decDigits (d * 5 ^ K)) K).length - K), (padl (Lib.decDigits (d * 5 ^ K)) K).drop ((padl (Lib.decDigits (d * 5 ^ K)) K).length - K), ?_, fun c h => hall c (List.mem_of_mem_take h), fun c h => hall c (List.mem_of_mem_drop h), ?_, ?_, ?_⟩
  · unfold ptx wpt
    rw [ho, hB]
    by_cases hs : sg b = 1
    · rw [if_pos hs, if_pos (by rw [hs]; rfl)]; simp
    · rw [if_neg hs, if_neg (by simpa using hs)]; simp
  · intro h
    have := congrArg List.length h
    rw [List.length_take, List.length_nil] at this
    omega
  · intro h
    have := congrArg List.length h
    rw [List.length_drop, List.length_nil] at this
    omega
  · by_cases hd2 : (Lib.decDigits (d * 5 ^ K)).length ≤ K
    · left
      rw [show (padl (Lib.decDigits (d * 5 ^ K)) K).length - K = 1 by omega, hpe]
      obtain ⟨j, hj⟩ : ∃ j, K + 1 - (Lib.decDigits (d * 5 ^ K)).length = j + 1 := ⟨K - (Lib.decDigits (d * 5 ^ K)).length, by omega⟩
      rw [hj, List.replicate_succ]
      rfl
    · right
      obtain ⟨j, hj⟩ : ∃ j, (padl (Lib.decDigits (d * 5 ^ K)) K).length - K = j + 1 := ⟨(padl (Lib.decDigits (d * 5 ^ K)) K).length - K - 1, by omega⟩
      refine ⟨c, t.take j, ?_, hc0⟩
      rw [hj, hpe, show K + 1 - (Lib.decDigits (d * 5 ^ K)).length = 0 by omega, hcx]
      rfl
theorem nsz_ptx {b : Nat} (hc : cls b = 1) (R : List UInt8) (hR : Stp R) : nsz (ptx b ++ R) = (ptx b).length := by
  obtain ⟨A, B, he, hA, hB, hA0, hB0, h1⟩ := ptx_parts hc
  have e2 : ptx b ++ R = (if sg b == 1 then [45] else []) ++ A ++ (46 :: (B ++ R)) := by rw [he]; simp
  have ht : tp1 45 (ptx b ++ R) = A ++ (46 :: (B ++ R)) := by rw [e2]; exact tp1_sign _ hA hA0 _
  refine nsz_of rfl (by rw [ht]; exact figs_dig hA hA0 _) ?_
  unfold jnum
  rw [ht, jrest_dig hA hA0 h1 (46 :: (B ++ R)) rfl]
  have hj : jpt (46 :: (B ++ R)) = R := by
    show aft (B ++ R) (46 :: (B ++ R)) = R
    unfold aft
    rw [if_neg (figs_dig hB hB0 R)]
    unfold rst
    rw [dropWhile_all _ hB]
    exact hR.rst
  rw [hj, hR.jex]
end Go.Proofs.YtebfggiodhaahaaGreatDoor
end
section
namespace Go.Proofs.YtebfggiodhaahaaGreatDoor
open Go.RowKit Go.Shelf
set_option linter.unusedVariables false

theorem eq8 {b : UInt8} {n : Nat} (h : b.toNat = n) : b = UInt8.ofNat n := by subst h; simp
theorem ucon_is {b : Nat} (h : ucon b = true) : 128 ≤ b ∧ b < 192 := by unfold ucon at h; exact of_decide_eq_true h
theorem uacc_cons {c k d : Nat} {l : List UInt8} (h : uacc c (k + 1) l = some d) : ∃ b r, l = b :: r ∧ 128 ≤ b.toNat ∧ b.toNat < 192 ∧ uacc (c * 64 + (b.toNat - 128)) k r = some d := by
  cases l with
  | nil => cases h
  | cons b r =>
    unfold uacc at h
    split at h
    · rename_i hc
      exact ⟨b, r, rfl, (ucon_is hc).1, (ucon_is hc).2, h⟩
    · cases h
theorem uacc_zero {c d : Nat} {l : List UInt8} (h : uacc c 0 l = some d) : d = c := by
  unfold uacc at h
  exact (Option.some.inj h).symm
/-- A code point that is read is what it is written as. -/
theorem udec_inv {l : List UInt8} {c n : Nat} (h : udec l = some (c, n)) : l.take n = uenc c := by
  have hs := udec_some h
  cases l with
  | nil => cases h
  | cons b r =>
    simp only [udec] at h
    split at h
    · cases h
    · rename_i hz
      split at h
      · cases h
      · rename_i d hd
        split at h
        · rename_i hl
          simp only [Option.some.injEq, Prod.mk.injEq] at h
          obtain ⟨rfl, rfl⟩ := h
          have hb := b.toNat_lt
          have h4 := ulng_le d
          have hlen := hl
          unfold usz uown at *
          by_cases b1 : b.toNat < 128
          · simp only [if_pos b1] at hd hl hs ⊢
            have hd := uacc_zero hd
            rw [show 1 = 0 + 1 from rfl, List.take_succ_cons, List.take_zero]
            unfold uenc
            rw [if_pos (by omega), ← eq8 (b := b) (by omega)]
          by_cases b2 : b.toNat < 192
          · rw [if_neg b1, if_pos b2] at hz; exact absurd rfl hz
          by_cases b3 : b.toNat < 224
          · simp only [if_neg b1, if_neg b2, if_pos b3] at hd hl hs ⊢
            obtain ⟨b4, r4, rfl, e1, e2, hd⟩ := uacc_cons (k := 0) hd
            have hd := uacc_zero hd
            have hr : 128 ≤ d ∧ d < 2048 := by unfold ulng at hl; (repeat' split at hl) <;> omega
            rw [show 2 = 0 + 1 + 1 from rfl, List.take_succ_cons, List.take_succ_cons, List.take_zero]
            unfold uenc
            rw [if_neg (by omega), if_pos (by omega), ← eq8 (b := b) (by omega), ← eq8 (b := b4) (by omega)]
          by_cases b5 : b.toNat < 240
          · simp only [if_neg b1, if_neg b2, if_neg b3, if_pos b5] at hd hl hs ⊢
            obtain ⟨b4, r4, rfl, e1, e2, hd⟩ := uacc_cons (k := 1) hd
            obtain ⟨b6, r6, rfl, e3, e4, hd⟩ := uacc_cons (k := 0) hd
            have hd := uacc_zero hd
            have hr : 2048 ≤ d ∧ d < 65536 := by unfold ulng at hl; (repeat' split at hl) <;> omega
            rw [show 3 = 0 + 1 + 1 + 1 from rfl, List.take_succ_cons, List.take_succ_cons, List.take_succ_cons, List.take_zero]
            unfold uenc
            rw [if_neg (by omega), if_neg (by omega), if_pos (by omega), ← eq8 (b := b) (by omega), ← eq8 (b := b4) (by omega), ← eq8 (b := b6) (by omega)]
          by_cases b7 : b.toNat < 248
          · simp only [if_neg b1, if_neg b2, if_neg b3, if_neg b5, if_pos b7] at hd hl hs ⊢
            obtain ⟨b4, r4, rfl, e1, e2, hd⟩ := uacc_cons (k := 2) hd
            obtain ⟨b6, r6, rfl, e3, e4, hd⟩ := uacc_cons (k := 1) hd
            obtain ⟨b8, r8, rfl, e5, e6, hd⟩ := uacc_cons (k := 0) hd
            have hd := uacc_zero hd
            have hr : 65536 ≤ d ∧ d ≤ 1114111 := by unfold ulng at hl; (repeat' split at hl) <;> omega
            rw [show 4 = 0 + 1 + 1 + 1 + 1 from rfl, List.take_succ_cons, List.take_succ_cons, List.take_succ_cons, List.take_succ_cons, List.take_zero]
            unfold uenc
            rw [if_neg (by omega), if_neg (by omega), if_neg (by omega), ← eq8 (b := b) (by omega), ← eq8 (b := b4) (by omega), ← eq8 (b := b6) (by omega), ← eq8 (b := b8) (by omega)]
          · rw [if_neg b1, if_neg b2, if_neg b3, if_neg b5, if_neg b7] at hz; exact absurd rfl hz
        · cases h
/-- What is written of a text of code points is read as it. -/
theorem pcs_text : ∀ (n : Nat) (T : List UInt8), T.length ≤ n → uval T = true → Pcs (T.flatMap jesc) T := by
  intro n
  induction n with
  | zero => intro T h _; obtain rfl : T = [] := List.length_eq_zero_iff.1 (by omega); exact .nil
  | succ n ih =>
    intro T h hv
    by_cases h0 : T = []
    · subst h0; exact .nil
    · rw [uval_cons h0, Bool.and_eq_true] at hv
      obtain ⟨⟨c, k⟩, hd⟩ := Option.isSome_iff_exists.1 hv.1
      have hs := udec_some hd
      have hu := hv.2
      rw [unn_some hd] at hu
      have ht := udec_inv hd
      have e : T = uenc c ++ T.drop k := by rw [← ht, List.take_append_drop]
      have hc : ulng c ≠ 0 := by omega
      have h2 := ih (T.drop k) (by rw [List.length_drop]; omega) hu
      have h3 := (pc_enc hc).pcs.both h2
      rw [← List.flatMap_append, ← e] at h3
      exact h3
theorem jtx_quote (f : Nat) (R x : List UInt8) : jtx (f + 1) (34 :: R) x = some (x, R) := by
  obtain ⟨h3, h4⟩ := unc_asc (c := 34) (by decide) R
  rw [jtx_succ, h3, h4, if_neg (by decide)]
  show (if ([34] : List UInt8) = [34] then some (x, R) else _) = _
  rw [if_pos rfl]
theorem jtx_text {T : List UInt8} (h : uval T = true) (R : List UInt8) : ∃ f, jtx f (T.flatMap jesc ++ 34 :: R) [] = some (T, R) := by
  obtain ⟨k, hk⟩ := pcs_text _ T (Nat.le_refl _) h
  exact ⟨1 + k, by rw [hk, List.nil_append]; exact jtx_quote 0 R T⟩
theorem jq_app (T R : List UInt8) : jq T ++ R = 34 :: (T.flatMap jesc ++ 34 :: R) := by unfold jq; simp
theorem jv_text {T : List UInt8} (h : uval T = true) (R : List UInt8) : JV (jq T ++ R) (lf 5 false 0 0 (str T)) R false false := by
  obtain ⟨f, hf⟩ := jtx_text h R
  rw [jq_app]
  exact .txt f (skip_no (by decide)) hf
theorem jn_text {T : List UInt8} (h : uval T = true) (R : List UInt8) : JN (jq T ++ 58 :: R) T R := by
  obtain ⟨f, hf⟩ := jtx_text h (58 :: R)
  rw [jq_app]
  exact ⟨f, _, _, skip_no (by decide), hf, skip_no (by decide)⟩
end Go.Proofs.YtebfggiodhaahaaGreatDoor
end
section
namespace Go.Proofs.YtebfggiodhaahaaGreatDoor
open Go.RowKit Go.Shelf Go.Maps Go.Sort
set_option linter.unusedVariables false

theorem out_factsJ {o : Own} {n : Nat} (hx : o.x < 2 ^ 256) (h : outB o n = true) :
    (o.kind ≠ 3 → o.g = false ∧ o.x = 0) ∧ (o.kind ≠ 2 → o.kind ≠ 4 → o.bits = 0) ∧ (o.kind ≠ 5 → o.kind ≠ 6 → o.text.toList = []) ∧ (o.kind ≠ 8 → o.keys = []) ∧ (o.kind ≠ 7 → o.kind ≠ 8 → n = 0) := by
  have hnil : (⟨#[]⟩ : ByteArray).toList = [] := by first | rfl | decide | kernel_rfl | simp [ByteArray.toList, ByteArray.toList.loop]
  unfold outB at h
  simp only at h
  by_cases h1 : o.kind = 2 ∨ o.kind = 4
  · rw [if_pos h1] at h
    obtain ⟨_, a, b, c, d, e⟩ := eqO_parts.1 h
    exact ⟨fun _ => eq5_zero hx a, fun _ _ => by omega, fun _ _ => by rw [c, hnil], fun _ => List.eq_nil_of_length_eq_zero (by omega), fun _ _ => by omega⟩
  rw [if_neg h1] at h
  by_cases h2 : o.kind = 3
  · rw [if_pos h2] at h
    obtain ⟨_, a, b, c, d, e⟩ := eqO_parts.1 h
    exact ⟨fun h => absurd h2 h, fun _ _ => b, fun _ _ => by rw [c, hnil], fun _ => List.eq_nil_of_length_eq_zero (by omega), fun _ _ => by omega⟩
  rw [if_neg h2] at h
  by_cases h3 : o.kind = 5 ∨ o.kind = 6
  · rw [if_pos h3] at h
    obtain ⟨_, a, b, c, d, e⟩ := eqO_parts.1 h
    exact ⟨fun _ => eq5_zero hx a, fun _ _ => b, fun _ _ => by omega, fun _ => List.eq_nil_of_length_eq_zero (by omega), fun _ _ => by omega⟩
  rw [if_neg h3] at h
  by_cases h4 : o.kind = 7
  · rw [if_pos h4] at h
    obtain ⟨_, a, b, c, d, e⟩ := eqO_parts.1 h
    exact ⟨fun _ => eq5_zero hx a, fun _ _ => b, fun _ _ => by rw [c, hnil], fun _ => List.eq_nil_of_length_eq_zero (by omega), fun _ _ => by omega⟩
  rw [if_neg h4] at h
  by_cases h5 : o.kind = 8
  · rw [if_pos h5] at h
    obtain ⟨_, a, b, c, d, e⟩ := eqO_parts.1 h
    exact ⟨fun _ => eq5_zero hx a, fun _ _ => b, fun _ _ => by rw [c, hnil], fun h => absurd h5 h, fun _ h => absurd h5 h⟩
  rw [if_neg h5] at h
  obtain ⟨_, a, b, c, d, e⟩ := eqO_parts.1 h
  exact ⟨fun _ => eq5_zero hx a, fun _ _ => b, fun _ _ => by rw [c, hnil], fun _ => List.eq_nil_of_length_eq_zero (by omega), fun _ _ => by omega⟩
theorem text_nil {s : ByteArray} (h : s.toList = []) : s = ⟨#[]⟩ := by
  rw [toList_data] at h
  rw [← str_of s, h]
  rfl
theorem tri8J : ∀ x y : List UInt8, x < y ∨ x = y ∨ y < x
  | [], [] => .inr (.inl rfl)
  | [], _ :: _ => .inl (List.nil_lt_cons _ _)
  | _ :: _, [] => .inr (.inr (List.nil_lt_cons _ _))
  | a :: x, b :: y => by
    rcases Nat.lt_trichotomy a.toNat b.toNat with h | h | h
    · exact .inl (List.cons_lt_cons_iff.2 (.inl (UInt8.lt_iff_toNat_lt.2 h)))
    · obtain rfl := UInt8.toNat_inj.1 h
      rcases tri8J x y with h | h | h
      · exact .inl (List.cons_lt_cons_iff.2 (.inr ⟨rfl, h⟩))
      · exact .inr (.inl (by rw [h]))
      · exact .inr (.inr (List.cons_lt_cons_iff.2 (.inr ⟨rfl, h⟩)))
    · exact .inr (.inr (List.cons_lt_cons_iff.2 (.inl (UInt8.lt_iff_toNat_lt.2 h))))
theorem less_ofJ : ∀ x y : List UInt8, x < y → Op.bytesLess x y = true
  | [], [], h => absurd h (List.lt_irrefl _)
  | [], _ :: _, _ => by simp [Op.bytesLess]
  | _ :: _, [], h => absurd h (List.not_lt_nil _)
  | a :: x, b :: y, h => by
    rw [Op.bytesLess]
    rcases List.cons_lt_cons_iff.1 h with h1 | ⟨rfl, h1⟩
    · simp [h1]
    · simp [less_ofJ x y h1]
theorem leS_noJ {a b : ByteArray} (h : leS a b = false) : b.toList < a.toList := by
  unfold leS at h
  rw [Bool.or_eq_false_iff, beq_eq_false_iff_ne] at h
  rcases tri8J a.toList b.toList with h1 | h1 | h1
  · rw [less_ofJ _ _ h1] at h; exact absurd h.1 (by simp)
  · exact absurd h1 h.2
  · exact h1
theorem names_riseJ {keys : List ByteArray} (h : namesB keys = true) : ∀ (j i : Nat) (a b : ByteArray), i < j → keys[i]? = some a → keys[j]? = some b → a.toList < b.toList := by
  unfold namesB at h
  rw [List.all_eq_true] at h
  intro j
  induction j with
  | zero => intro i a b hi; omega
  | succ j ih =>
    intro i a b hi ha hb
    have hlt := (List.getElem?_eq_some_iff.1 hb).1
    have hc : keys[j]? = some keys[j] := List.getElem?_eq_getElem (by omega)
    have hk := h (j + 1) (List.mem_range.2 hlt)
    unfold keyOk at hk
    rw [getD_at hb, Nat.add_sub_cancel, getD_at hc, Bool.and_eq_true] at hk
    have h2 := hk.2
    have h3 : leS b keys[j] = false := by simpa using h2
    have h4 := leS_noJ h3
    by_cases hij : i = j
    · subst hij
      rw [hc] at ha
      cases ha
      exact h4
    · exact List.lt_trans (ih i a keys[j] (by omega) ha hc) h4
theorem names_val {keys : List ByteArray} (h : namesB keys = true) {j : Nat} (hj : j < keys.length) : uval (keys.getD j ⟨#[]⟩).data.toList = true := by
  unfold namesB at h
  rw [List.all_eq_true] at h
  have hk := h j (List.mem_range.2 hj)
  unfold keyOk at hk
  rw [Bool.and_eq_true] at hk
  exact hk.1
theorem names_apart {keys : List ByteArray} (h : namesB keys = true) : (keys.map fun s => s.data.toList).Pairwise (· < ·) := by
  rw [List.pairwise_map, List.pairwise_iff_getElem]
  intro i j hi hj hij
  have := names_riseJ h j i keys[i] keys[j] hij (List.getElem?_eq_getElem hi) (List.getElem?_eq_getElem hj)
  rwa [toList_data, toList_data] at this
/-- Members whose names rise stand sorted. -/
theorem srt_id {kv : List (List UInt8 × VT)} (h : (kv.map Prod.fst).Pairwise (· < ·)) : srt kv = kv := by
  unfold srt
  apply List.mergeSort_of_pairwise
  rw [List.pairwise_map] at h
  exact h.imp (fun {a b} hab => decide_eq_true (List.le_of_lt hab))
theorem rise_nodup {l : List (List UInt8)} (h : l.Pairwise (· < ·)) : l.Nodup := h.imp (fun {a b} hab e => by rw [e] at hab; exact List.lt_irrefl _ hab)
/-- A number that is written, whatever may stand behind it. -/
theorem jv_numA {A R : List UInt8} {c : UInt8} {t0 : List UInt8} {k : Int} {g : Bool} {x : Nat} {y : Int} (hA : A = c :: t0) (hc : c = 45 ∨ dfig c = true) (hk : k = 3 ∨ k = 4) (hx : x < 2 ^ 256) (hy : 0 ≤ y ∧ y ≤ 18446744073709551615) (hn : nsz (A ++ R) = A.length) (hd : dpans A = .tuple #[VV k g x y, .int .i64 0]) : JV (A ++ R) (lf k g x y ⟨#[]⟩) R false false := by
  subst hA
  have hb : ¬ (c = 32 ∨ c = 9 ∨ c = 10 ∨ c = 13) := by
    rcases hc with rfl | hc
    · decide
    · rintro (rfl | rfl | rfl | rfl) <;> exact absurd hc (by decide)
  have hnc : numc c = true := by
    unfold numc
    rcases hc with rfl | hc
    · rfl
    · unfold dfig at hc
      rw [hc, Bool.or_true]
  have hn' : nsz (c :: (t0 ++ R)) = (c :: t0).length := hn
  have h := JV.num (l := c :: (t0 ++ R)) (t := t0 ++ R) (c := c) (k := k) (g := g) (x := x) (y := y) (skip_no hb) hnc hk hx hy (by
    rw [hn']
    have : (c :: (t0 ++ R)).take (c :: t0).length = c :: t0 := List.take_left (l₁ := c :: t0)
    rw [this]
    exact hd)
  rw [hn'] at h
  have h2 : (c :: (t0 ++ R)).drop (c :: t0).length = R := List.drop_left (l₁ := c :: t0)
  rw [h2] at h
  exact h
def HdB (c : UInt8) : Prop := c = 45 ∨ dfig c = true ∨ c = 34 ∨ c = 91 ∨ c = 123 ∨ c = 110 ∨ c = 102 ∨ c = 116
theorem HdB.no {c : UInt8} (h : HdB c) (d : UInt8) (hd : ¬ HdB d) : c ≠ d := fun e => hd (e ▸ h)
theorem HdB.skip {c : UInt8} (h : HdB c) (t : List UInt8) : jskip (c :: t) = c :: t := skip_no (by
  rintro (rfl | rfl | rfl | rfl) <;> exact absurd h (by unfold HdB; decide))
/-- What may be known of a value that is to be written. -/
def Wr (o : Own) : Prop := o.x < 2 ^ 256 ∧ 0 ≤ o.bits ∧ o.bits ≤ 18446744073709551615
theorem jint_head (g : Bool) (x : Nat) : ∃ c t, jint g x = c :: t ∧ (c = 45 ∨ dfig c = true) := by
  have hD := dfig_dec x
  obtain ⟨c, t, hc⟩ : ∃ c t, Lib.decDigits x = c :: t := by
    cases h : Lib.decDigits x with
    | nil => have := dec_pos x; rw [h] at this; exact absurd this (by decide)
    | cons c t => exact ⟨c, t, rfl⟩
  cases g with
  | true => exact ⟨45, _, rfl, Or.inl rfl⟩
  | false => exact ⟨c, t, by unfold jint; rw [hc]; rfl, Or.inr (hD c (by rw [hc]; exact List.mem_cons_self ..))⟩
theorem ptx_head {b : Nat} (hc : cls b = 1) : ∃ c t, ptx b = c :: t ∧ (c = 45 ∨ dfig c = true) := by
  obtain ⟨A, B, he, hA, hB, hA0, hB0, h1⟩ := ptx_parts hc
  rw [he]
  cases h : sg b == 1 with
  | true => exact ⟨45, _, rfl, Or.inl rfl⟩
  | false =>
    cases A with
    | nil => exact absurd rfl hA0
    | cons c t => exact ⟨c, _, rfl, Or.inr (hA c (List.mem_cons_self ..))⟩
theorem json_cls {o : Own} {kids : List VT} (h : hasT notJsonT (.mk o kids) = false) (h4 : o.kind = 4) : cls o.bits.toNat = 1 := by
  have := (hasT_false h).1
  unfold notJsonT at this
  rw [Bool.or_eq_false_iff] at this
  have h2 := this.2
  rw [VT.o_mk, decide_eq_true h4, Bool.true_and] at h2
  have : ((cls o.bits.toNat : Nat) : Int) = 1 := by simpa using h2
  omega
theorem json_6 {o : Own} {kids : List VT} (h : hasT notJsonT (.mk o kids) = false) : o.kind ≠ 6 := by
  intro h6
  have := (hasT_false h).1
  unfold notJsonT at this
  rw [Bool.or_eq_false_iff] at this
  rw [VT.o_mk, decide_eq_true h6] at this
  cases this.1
theorem jenc_head : ∀ (T : VT), hasT wrongT T = false → hasT notJsonT T = false → ∃ c t, jencT T = c :: t ∧ HdB c := by
  rintro ⟨o, kids⟩ hw hj
  have ho : ownB o kids.length = true := by have := (hasT_false hw).1; unfold wrongT at this; simpa using this
  rw [jencT_mk]
  rcases own_kind ho with h | h | h | h | h | h | h | h
  · exact ⟨110, _, jO_1 h, by unfold HdB; simp⟩
  · by_cases hb : o.bits = 0
    · exact ⟨102, _, by rw [jO_2 h, if_pos hb], by unfold HdB; simp⟩
    · exact ⟨116, _, by rw [jO_2 h, if_neg hb], by unfold HdB; simp⟩
  · obtain ⟨c, t, e, hc⟩ := jint_head o.g o.x
    exact ⟨c, t, by rw [jO_3 h, e], hc.elim Or.inl (fun h => Or.inr (Or.inl h))⟩
  · obtain ⟨c, t, e, hc⟩ := ptx_head (json_cls hj h)
    exact ⟨c, t, by rw [jO_4 h, e], hc.elim Or.inl (fun h => Or.inr (Or.inl h))⟩
  · exact ⟨34, _, jO_5 h, by unfold HdB; simp⟩
  · exact absurd h (json_6 hj)
  · exact ⟨91, _, by rw [jO_7 h]; rfl, by unfold HdB; simp⟩
  · exact ⟨123, _, by rw [jO_8 h]; rfl, by unfold HdB; simp⟩
/-- The pieces from the j-th on. -/
def Gj (f : Nat → List UInt8) (j : Nat) (E : List (List UInt8)) : List UInt8 := ((E.zipIdx j).map fun p => jpre f p.2 ++ p.1).flatten
theorem Gj_cons (f : Nat → List UInt8) (j : Nat) (e : List UInt8) (E : List (List UInt8)) : Gj f (j + 1) (e :: E) = 44 :: (f (j + 1) ++ (e ++ Gj f (j + 2) E)) := by
  unfold Gj
  rw [List.zipIdx_cons, List.map_cons, List.flatten_cons]
  unfold jpre
  simp only
  rw [if_neg (by omega)]
  simp
theorem jpcs_first (f : Nat → List UInt8) (e : List UInt8) (E : List (List UInt8)) : (jpcs f (e :: E)).flatten = f 0 ++ (e ++ Gj f 1 E) := by
  unfold jpcs Gj
  rw [List.zipIdx_cons, List.map_cons, List.flatten_cons]
  unfold jpre
  simp
def Rd1 (T : VT) : Prop := (∀ R, Stp R → JX (jencT T ++ R) (er T) R false false) ∧ ∃ c t, jencT T = c :: t ∧ HdB c
theorem Rd1.skip {T : VT} (h : Rd1 T) (R : List UInt8) : jskip (jencT T ++ R) = jencT T ++ R := by
  obtain ⟨c, t, e, hc⟩ := h.2
  rw [e]
  exact hc.skip _
theorem Rd1.pos {T : VT} (h : Rd1 T) : 0 < (jencT T).length := by
  obtain ⟨c, t, e, hc⟩ := h.2
  rw [e]
  simp
theorem stp93 (R : List UInt8) : Stp (93 :: R) := Stp.of (by decide)
theorem stp44 (R : List UInt8) : Stp (44 :: R) := Stp.of (by decide)
theorem stp125 (R : List UInt8) : Stp (125 :: R) := Stp.of (by decide)
theorem japx (R : List UInt8) : ∀ (kids : List VT) (T : VT) (j : Nat), (∀ t ∈ T :: kids, Rd1 t) → JAP JX (jencT T ++ (Gj (fun _ => []) (j + 1) (kids.map jencT) ++ 93 :: R)) (er T :: kids.map er) R false false := by
  intro kids
  induction kids with
  | nil =>
    intro T j h
    have hT := h T (by simp)
    refine .last (r1 := 93 :: R) (hT.1 _ (stp93 R)) ?_ (skip_no (by decide))
    have e : jencT T ++ (Gj (fun _ => []) (j + 1) (List.map jencT []) ++ 93 :: R) = jencT T ++ 93 :: R := rfl
    rw [e, hT.skip, List.length_append]
    have := hT.pos
    omega
  | cons T2 kids ih =>
    intro T j h
    have hT := h T (by simp)
    have e : jencT T ++ (Gj (fun _ => []) (j + 1) ((T2 :: kids).map jencT) ++ 93 :: R) = jencT T ++ (44 :: (jencT T2 ++ (Gj (fun _ => []) (j + 2) (kids.map jencT) ++ 93 :: R))) := by
      rw [List.map_cons, Gj_cons]
      simp
    rw [e]
    refine JAP.more (r1 := 44 :: (jencT T2 ++ (Gj (fun _ => []) (j + 2) (kids.map jencT) ++ 93 :: R))) (lg := false) (un := false) (lg2 := false) (un2 := false) (hT.1 _ (stp44 _)) ?_ (skip_no (by decide)) (ih T2 (j + 1) (fun t ht => h t (List.mem_cons_of_mem _ ht)))
    rw [hT.skip, List.length_append]
    have := hT.pos
    omega
theorem jox (KS : List ByteArray) (hKS : namesB KS = true) (R : List UInt8) : ∀ (kids : List VT) (T : VT) (j : Nat), kids.length + j + 1 = KS.length → (∀ t ∈ T :: kids, Rd1 t) → JO JX (jkey KS j ++ (jencT T ++ (Gj (jkey KS) (j + 1) (kids.map jencT) ++ 125 :: R))) (((KS.getD j ⟨#[]⟩).data.toList, er T) :: ((KS.drop (j + 1)).map fun s => s.data.toList).zip (kids.map er)) R false false := by
  intro kids
  induction kids with
  | nil =>
    intro T j hl h
    have hT := h T (by simp)
    have hd : KS.drop (j + 1) = [] := List.drop_eq_nil_of_le (by simp at hl; omega)
    have e : jkey KS j ++ (jencT T ++ (Gj (jkey KS) (j + 1) (List.map jencT []) ++ 125 :: R)) = jq (KS.getD j ⟨#[]⟩).data.toList ++ 58 :: (jencT T ++ 125 :: R) := by
      unfold jkey
      rw [List.append_assoc]
      rfl
    rw [e, hd]
    refine JO.last (r2 := jencT T ++ 125 :: R) (r3 := 125 :: R) (jn_text (names_val hKS (by omega)) _) (hT.1 _ (stp125 R)) ?_ (skip_no (by decide))
    rw [List.length_append]
    have := hT.pos
    omega
  | cons T2 kids ih =>
    intro T j hl h
    have hT := h T (by simp)
    rw [List.length_cons] at hl
    have hlt : j + 1 < KS.length := by omega
    have hd : KS.drop (j + 1) = KS[j + 1] :: KS.drop (j + 2) := List.drop_eq_getElem_cons hlt
    have hg : KS.getD (j + 1) ⟨#[]⟩ = KS[j + 1] := getD_at (List.getElem?_eq_getElem hlt)
    have e : jkey KS j ++ (jencT T ++ (Gj (jkey KS) (j + 1) ((T2 :: kids).map jencT) ++ 125 :: R)) = jq (KS.getD j ⟨#[]⟩).data.toList ++ 58 :: (jencT T ++ (44 :: (jkey KS (j + 1) ++ (jencT T2 ++ (Gj (jkey KS) (j + 2) (kids.map jencT) ++ 125 :: R))))) := by
      rw [List.map_cons, Gj_cons]
      rw [show jkey KS j = jq (KS.getD j ⟨#[]⟩).data.toList ++ [58] from rfl]
      simp
    rw [e, hd, ← hg]
    refine JO.more (r2 := jencT T ++ (44 :: (jkey KS (j + 1) ++ (jencT T2 ++ (Gj (jkey KS) (j + 2) (kids.map jencT) ++ 125 :: R))))) (r3 := 44 :: (jkey KS (j + 1) ++ (jencT T2 ++ (Gj (jkey KS) (j + 2) (kids.map jencT) ++ 125 :: R)))) (lg := false) (un := false) (lg2 := false) (un2 := false) (jn_text (names_val hKS (by omega)) _) (hT.1 _ (stp44 _)) ?_ (skip_no (by decide)) (ih T2 (j + 1) (by omega) (fun t ht => h t (List.mem_cons_of_mem _ ht)))
    rw [List.length_append]
    have := hT.pos
    omega
/-- What is written is read. -/
theorem jx_enc : ∀ (T : VT), hasT wrongT T = false → hasT notJsonT T = false → T.Every Wr → ∀ R, Stp R → JX (jencT T ++ R) (er T) R false false := by
  intro T
  induction T using VT.ind with
  | h o kids ih =>
    intro hw hj hE R hR
    have ho : ownB o kids.length = true := by have := (hasT_false hw).1; unfold wrongT at this; simpa using this
    have hor : outB o kids.length = true ∧ restB o kids.length = true := by unfold ownB at ho; rwa [Bool.and_eq_true] at ho
    obtain ⟨hx, hb0, hb1⟩ := hE.own
    obtain ⟨f1, f2, f3, f4, f5⟩ := out_factsJ hx hor.1
    have hkid : ∀ t ∈ kids, Rd1 t := fun t ht => ⟨ih t ht ((hasT_false hw).2 t ht) ((hasT_false hj).2 t ht) (hE.mem ht), jenc_head t ((hasT_false hw).2 t ht) ((hasT_false hj).2 t ht)⟩
    have hkl : kids.length = 0 → kids = [] := List.length_eq_zero_iff.1
    rw [jencT_mk, er_mk]
    obtain ⟨kd, g, x, bits, text, la, lc, ka, kc, keys⟩ := o
    simp only at hx hb0 hb1 f1 f2 f3 f4 f5 ⊢
    rcases own_kind ho with h | h | h | h | h | h | h | h
    · simp only at h
      obtain ⟨rfl, rfl⟩ := f1 (by omega)
      obtain rfl := f2 (by omega) (by omega)
      obtain rfl := text_nil (f3 (by omega) (by omega))
      obtain rfl := f4 (by omega)
      obtain rfl := hkl (f5 (by omega) (by omega))
      subst h
      rw [jO_1 rfl]
      exact .leaf (.nul (skip_no (by decide)))
    · simp only at h
      obtain ⟨rfl, rfl⟩ := f1 (by omega)
      obtain rfl := text_nil (f3 (by omega) (by omega))
      obtain rfl := f4 (by omega)
      obtain rfl := hkl (f5 (by omega) (by omega))
      subst h
      have h1 := rest_2 rfl hor.2
      simp only at h1
      rw [jO_2 rfl]
      by_cases hb : bits = 0
      · subst hb
        rw [if_pos rfl]
        exact .leaf (.fal (skip_no (by decide)))
      · obtain rfl : bits = 1 := by omega
        rw [if_neg (show ¬ (1 : Int) = 0 by decide)]
        exact .leaf (.tru (skip_no (by decide)))
    · simp only at h
      have hok := own_okI ho hx h
      obtain rfl := f2 (by omega) (by omega)
      obtain rfl := text_nil (f3 (by omega) (by omega))
      obtain rfl := f4 (by omega)
      obtain rfl := hkl (f5 (by omega) (by omega))
      subst h
      rw [jO_3 rfl]
      obtain ⟨c, t, e, hc⟩ := jint_head g x
      exact .leaf (jv_numA e hc (Or.inl rfl) hx ⟨Int.le_refl _, by omega⟩ (nsz_int g x R hR) (dpans_int g x hx (fun hg h0 => hok ⟨hg, h0⟩)))
    · simp only at h
      have hcl := json_cls hj h
      obtain ⟨rfl, rfl⟩ := f1 (by omega)
      obtain rfl := text_nil (f3 (by omega) (by omega))
      obtain rfl := f4 (by omega)
      obtain rfl := hkl (f5 (by omega) (by omega))
      subst h
      rw [jO_4 rfl]
      simp only at hcl ⊢
      obtain ⟨c, t, e, hc⟩ := ptx_head hcl
      have hd := dpans_ptx (b := bits.toNat) (by omega) hcl
      rw [show ((bits.toNat : Nat) : Int) = bits by omega] at hd
      exact .leaf (jv_numA e hc (Or.inr rfl) (by decide) ⟨hb0, hb1⟩ (nsz_ptx hcl R hR) hd)
    · simp only at h
      obtain ⟨rfl, rfl⟩ := f1 (by omega)
      obtain rfl := f2 (by omega) (by omega)
      obtain rfl := f4 (by omega)
      obtain rfl := hkl (f5 (by omega) (by omega))
      subst h
      rw [jO_5 rfl]
      have hv : uval text.data.toList = true := by
        have h9 := hor.2
        unfold restB at h9
        simp only at h9
        rw [if_neg (by omega), if_neg (by omega), if_neg (by omega), if_neg (by omega), if_pos trivial] at h9
        exact h9
      have := jv_text hv R
      rw [str_of] at this
      exact .leaf this
    · exact absurd h (json_6 hj)
    · simp only at h
      obtain ⟨rfl, rfl⟩ := f1 (by omega)
      obtain rfl := f2 (by omega) (by omega)
      obtain rfl := text_nil (f3 (by omega) (by omega))
      obtain rfl := f4 (by omega)
      subst h
      rw [jO_7 rfl]
      cases kids with
      | nil => exact .leaf (.arr0 (t := 93 :: R) (skip_no (by decide)) (skip_no (by decide)))
      | cons T ks =>
        have hT := hkid T (by simp)
        have e : [91] ++ (jpcs (fun _ => []) (List.map jencT (T :: ks))).flatten ++ [93] ++ R = 91 :: (jencT T ++ (Gj (fun _ => []) 1 (ks.map jencT) ++ 93 :: R)) := by
          rw [List.map_cons, jpcs_first]
          simp
        rw [e]
        refine .arr (ks := er T :: ks.map er) (skip_no (by decide)) ?_ ?_
        · rw [hT.skip]
          obtain ⟨c, t, e, hc⟩ := hT.2
          rw [e]
          exact pre_no (hc.no 93 (by unfold HdB; decide))
        · rw [hT.skip]
          exact japx R ks T 0 (fun t ht => hkid t ht)
    · simp only at h
      obtain ⟨rfl, rfl⟩ := f1 (by omega)
      obtain rfl := f2 (by omega) (by omega)
      obtain rfl := text_nil (f3 (by omega) (by omega))
      subst h
      have hr := rest_8 rfl hor.2
      simp only at hr
      obtain ⟨hlen, hnm⟩ := hr
      rw [jO_8 rfl]
      have hobj : ∀ kv : List (List UInt8 × VT), kv = (keys.map fun s => s.data.toList).zip (kids.map er) → VT.mk ⟨8, false, 0, 0, ⟨#[]⟩, none, 0, none, 0, keys⟩ (kids.map er) = objO kv ∧ (kv.map Prod.fst).Nodup := by
        intro kv hkv
        have h1 : kv.map Prod.fst = keys.map fun s => s.data.toList := by rw [hkv]; exact List.map_fst_zip (by rw [List.length_map, List.length_map]; omega)
        have h2 : kv.map Prod.snd = kids.map er := by rw [hkv]; exact List.map_snd_zip (by rw [List.length_map, List.length_map]; omega)
        have h3 := names_apart hnm
        rw [← h1] at h3
        refine ⟨?_, rise_nodup h3⟩
        unfold objO
        rw [srt_id h3, h2]
        have h4 : kv.map (fun p => str p.1) = keys := by
          rw [show kv.map (fun p => str p.1) = (kv.map Prod.fst).map str from by rw [List.map_map]; rfl, h1, List.map_map]
          exact (List.map_congr_left (fun s _ => str_of s)).trans (List.map_id _)
        rw [h4]
      cases kids with
      | nil =>
        have hk0 : keys = [] := List.length_eq_zero_iff.1 hlen
        subst hk0
        have e := (hobj [] rfl).1
        simp only [List.map_nil] at e ⊢
        rw [e]
        exact .obj0 (t := 125 :: R) (skip_no (by decide)) (skip_no (by decide))
      | cons T ks =>
        rw [List.length_cons] at hlen
        have hlt : 0 < keys.length := by omega
        have hd : keys = keys[0] :: keys.drop 1 := by
          have := List.drop_eq_getElem_cons (i := 0) (l := keys) hlt
          rwa [List.drop_zero] at this
        have hg : keys.getD 0 ⟨#[]⟩ = keys[0] := getD_at (List.getElem?_eq_getElem hlt)
        have hkv : ((keys.getD 0 ⟨#[]⟩).data.toList, er T) :: ((keys.drop (0 + 1)).map fun s => s.data.toList).zip (ks.map er) = (keys.map fun s => s.data.toList).zip ((T :: ks).map er) := by
          rw [hg, show (keys.map fun s => s.data.toList) = keys[0].data.toList :: (keys.drop 1).map (fun s => s.data.toList) from by conv => lhs; rw [hd]; rw [List.map_cons], List.map_cons, List.zip_cons_cons]
        obtain ⟨e1, e2⟩ := hobj _ hkv
        have e : [123] ++ (jpcs (jkey keys) (List.map jencT (T :: ks))).flatten ++ [125] ++ R = 123 :: (jkey keys 0 ++ (jencT T ++ (Gj (jkey keys) 1 (ks.map jencT) ++ 125 :: R))) := by
          rw [List.map_cons, jpcs_first]
          simp
        rw [e, e1]
        have hs : jskip (jkey keys 0 ++ (jencT T ++ (Gj (jkey keys) 1 (ks.map jencT) ++ 125 :: R))) = jkey keys 0 ++ (jencT T ++ (Gj (jkey keys) 1 (ks.map jencT) ++ 125 :: R)) := skip_no (by decide)
        refine .obj (skip_no (by decide)) ?_ ?_ e2
        · rw [hs]
          exact pre_no (by decide)
        · rw [hs]
          exact jox keys hnm R ks T 0 (by omega) (fun t ht => hkid t ht)
end Go.Proofs.YtebfggiodhaahaaGreatDoor
end
section
namespace Go.Proofs.YtebfggiodhaahaaGreatDoor
open Go.RowKit Go.Shelf Go.Maps Go.Sort
set_option linter.unusedVariables false

theorem endP_nil (c : UInt8) : EndP c false [] [] := Or.inr ⟨rfl, rfl, rfl, rfl⟩
theorem jaex : ∀ (kids : List VT) (T : VT) (j : Nat), (∀ t ∈ T :: kids, Rd1 t) → JAE false JX (jencT T ++ Gj (fun _ => []) (j + 1) (kids.map jencT)) (er T :: kids.map er) [] false false := by
  intro kids
  induction kids with
  | nil =>
    intro T j h
    have hT := h T (by simp)
    refine .last (r1 := []) (hT.1 _ Stp.nil) ?_ (endP_nil 93)
    have e : jencT T ++ Gj (fun _ => []) (j + 1) (List.map jencT []) = jencT T ++ [] := rfl
    rw [e, hT.skip, List.length_append]
    have := hT.pos
    simp only [List.length_nil]
    omega
  | cons T2 kids ih =>
    intro T j h
    have hT := h T (by simp)
    have e : jencT T ++ Gj (fun _ => []) (j + 1) ((T2 :: kids).map jencT) = jencT T ++ (44 :: (jencT T2 ++ Gj (fun _ => []) (j + 2) (kids.map jencT))) := by
      rw [List.map_cons, Gj_cons]
      simp
    rw [e]
    refine JAE.more (r1 := 44 :: (jencT T2 ++ Gj (fun _ => []) (j + 2) (kids.map jencT))) (lg := false) (un := false) (lg2 := false) (un2 := false) (hT.1 _ (stp44 _)) ?_ (skip_no (by decide)) (ih T2 (j + 1) (fun t ht => h t (List.mem_cons_of_mem _ ht)))
    rw [hT.skip, List.length_append]
    have := hT.pos
    omega
theorem joex (KS : List ByteArray) (hKS : namesB KS = true) : ∀ (kids : List VT) (T : VT) (j : Nat), kids.length + j + 1 = KS.length → (∀ t ∈ T :: kids, Rd1 t) → JOE false JX (jkey KS j ++ (jencT T ++ Gj (jkey KS) (j + 1) (kids.map jencT))) (((KS.getD j ⟨#[]⟩).data.toList, er T) :: ((KS.drop (j + 1)).map fun s => s.data.toList).zip (kids.map er)) [] false false := by
  intro kids
  induction kids with
  | nil =>
    intro T j hl h
    have hT := h T (by simp)
    have hd : KS.drop (j + 1) = [] := List.drop_eq_nil_of_le (by simp at hl; omega)
    have e : jkey KS j ++ (jencT T ++ Gj (jkey KS) (j + 1) (List.map jencT [])) = jq (KS.getD j ⟨#[]⟩).data.toList ++ 58 :: (jencT T ++ []) := by
      unfold jkey
      rw [List.append_assoc]
      rfl
    rw [e, hd]
    refine JOE.last (r2 := jencT T ++ []) (r3 := []) (jn_text (names_val hKS (by omega)) _) (hT.1 _ Stp.nil) ?_ (endP_nil 125)
    rw [List.length_append]
    have := hT.pos
    simp only [List.length_nil]
    omega
  | cons T2 kids ih =>
    intro T j hl h
    have hT := h T (by simp)
    rw [List.length_cons] at hl
    have hlt : j + 1 < KS.length := by omega
    have hd : KS.drop (j + 1) = KS[j + 1] :: KS.drop (j + 2) := List.drop_eq_getElem_cons hlt
    have hg : KS.getD (j + 1) ⟨#[]⟩ = KS[j + 1] := getD_at (List.getElem?_eq_getElem hlt)
    have e : jkey KS j ++ (jencT T ++ Gj (jkey KS) (j + 1) ((T2 :: kids).map jencT)) = jq (KS.getD j ⟨#[]⟩).data.toList ++ 58 :: (jencT T ++ (44 :: (jkey KS (j + 1) ++ (jencT T2 ++ Gj (jkey KS) (j + 2) (kids.map jencT))))) := by
      rw [List.map_cons, Gj_cons]
      rw [show jkey KS j = jq (KS.getD j ⟨#[]⟩).data.toList ++ [58] from rfl]
      simp
    rw [e, hd, ← hg]
    refine JOE.more (r2 := jencT T ++ (44 :: (jkey KS (j + 1) ++ (jencT T2 ++ Gj (jkey KS) (j + 2) (kids.map jencT))))) (r3 := 44 :: (jkey KS (j + 1) ++ (jencT T2 ++ Gj (jkey KS) (j + 2) (kids.map jencT)))) (lg := false) (un := false) (lg2 := false) (un2 := false) (jn_text (names_val hKS (by omega)) _) (hT.1 _ (stp44 _)) ?_ (skip_no (by decide)) (ih T2 (j + 1) (by omega) (fun t ht => h t (List.mem_cons_of_mem _ ht)))
    rw [List.length_append]
    have := hT.pos
    omega
theorem jtx_nil (f : Nat) (x : List UInt8) : jtx f [] x = none := by cases f <;> rfl
theorem hexs_34 : ∀ (l : List UInt8) (n : Nat), 34 ∈ l → hexs l n = none := by
  intro l
  induction l with
  | nil => intro n h; cases h
  | cons c l ih =>
    intro n h
    unfold hexs
    rcases List.mem_cons.1 h with rfl | h
    · rfl
    · cases hexd c with
      | none => rfl
      | some d => exact ih _ h
theorem take_more {l : List UInt8} {n : Nat} (h : n ≤ l.length) (R : List UInt8) : (l ++ R).take n = l.take n ∧ (l ++ R).drop n = l.drop n ++ R := ⟨List.take_append_of_le_length h, List.drop_append_of_le_length h⟩
theorem mem_take34 {D : List UInt8} (h : D.length < 4) : 34 ∈ (D ++ [34]).take 4 := by
  rw [List.take_of_length_le (by rw [List.length_append, List.length_singleton]; omega)]
  simp
theorem jpnt_more {D p r : List UInt8} (h : jpnt (D ++ [34]) = some (p, r)) : ∃ r', r = r' ++ [34] ∧ jpnt D = some (p, r') := by
  unfold jpnt at h ⊢
  by_cases h4 : 4 ≤ D.length
  · obtain ⟨t1, t2⟩ := take_more h4 [34]
    rw [if_pos (by rw [List.length_append]; omega), t1, t2] at h
    rw [if_pos h4]
    cases hv : hexs (D.take 4) 0 with
    | none => rw [hv] at h; cases h
    | some v =>
      rw [hv] at h
      simp only at h ⊢
      by_cases hs : v / 1024 = 54
      · rw [if_pos hs] at h ⊢
        obtain ⟨E, hE⟩ : ∃ E, D.drop 4 = E := ⟨_, rfl⟩
        rw [hE] at h ⊢
        by_cases hp : Lib.hasPrefix (E ++ [34]) [92, 117] ∧ 4 ≤ ((E ++ [34]).drop 2).length
        · rw [if_pos hp] at h
          have he2 : 2 ≤ E.length := by
            have := hp.2
            rw [List.length_drop, List.length_append, List.length_singleton] at this
            omega
          obtain ⟨s1, s2⟩ := take_more he2 [34]
          rw [s2] at h hp
          obtain ⟨F, hF⟩ : ∃ F, E.drop 2 = F := ⟨_, rfl⟩
          rw [hF] at h hp ⊢
          have hf4 : 4 ≤ F.length := by
            by_cases hf : F.length < 4
            · rw [hexs_34 _ 0 (mem_take34 hf)] at h
              cases h
            · omega
          have hpe : Lib.hasPrefix E [92, 117] = true := by
            obtain ⟨a, b, t, rfl⟩ : ∃ a b t, E = a :: b :: t := by
              match E, he2 with
              | a :: b :: t, _ => exact ⟨a, b, t, rfl⟩
            have := hp.1
            unfold Lib.hasPrefix at this ⊢
            simpa [List.isPrefixOf] using this
          rw [if_pos ⟨hpe, hf4⟩]
          obtain ⟨u1, u2⟩ := take_more hf4 [34]
          rw [u1, u2] at h
          cases hu : hexs (F.take 4) 0 with
          | none => rw [hu] at h; cases h
          | some u =>
            rw [hu] at h
            simp only at h ⊢
            by_cases hl : u / 1024 = 55
            · rw [if_pos hl] at h ⊢
              have := Option.some.inj h
              simp only [Prod.mk.injEq] at this
              obtain ⟨rfl, rfl⟩ := this
              exact ⟨_, rfl, rfl⟩
            · rw [if_neg hl] at h; cases h
        · rw [if_neg hp] at h; cases h
      · rw [if_neg hs] at h ⊢
        by_cases hz : zlng (v : Int) = 0
        · rw [if_pos hz] at h; cases h
        · rw [if_neg hz] at h ⊢
          have := Option.some.inj h
          simp only [Prod.mk.injEq] at this
          obtain ⟨rfl, rfl⟩ := this
          exact ⟨_, rfl, rfl⟩
  · have := mem_take34 (D := D) (by omega)
    rw [hexs_34 _ 0 this] at h
    split at h <;> cases h
theorem jesd_more {D p r : List UInt8} (h : jesd (D ++ [34]) = some (p, r)) : r = [] ∨ ∃ r', r = r' ++ [34] ∧ jesd D = some (p, r') := by
  cases D with
  | nil =>
    left
    have : jesd [34] = some ([34], []) := rfl
    rw [List.nil_append, this] at h
    have := Option.some.inj h
    simp only [Prod.mk.injEq] at this
    exact this.2.symm
  | cons c t =>
    right
    unfold jesd at h ⊢
    rw [List.cons_append] at h
    simp only at h ⊢
    by_cases hc : c = 117
    · rw [if_pos hc] at h ⊢
      exact jpnt_more h
    · rw [if_neg hc] at h ⊢
      cases hf : jesm.find? (fun p => p.1 = c) with
      | none => rw [hf] at h; cases h
      | some q =>
        rw [hf] at h
        simp only at h ⊢
        have := Option.some.inj h
        simp only [Prod.mk.injEq] at this
        obtain ⟨rfl, rfl⟩ := this
        exact ⟨t, rfl, rfl⟩
/-- A text that ends with its last byte stops without it. -/
theorem jtb_of : ∀ (f : Nat) (l x T : List UInt8), jtx f (l ++ [34]) x = some (T, []) → jtb f l = true := by
  intro f
  induction f with
  | zero => intro l x T h; cases h
  | succ f ih =>
    intro l x T h
    show (if unc l < 32 then true else if l.take (unn l) = [34] then false else if l.take (unn l) = [92] then (match jesd (l.drop (unn l)) with | some (p, r) => jtb f r | none => false) else jtb f (l.drop (unn l))) = true
    by_cases h0 : l = []
    · subst h0; rfl
    cases hd : udec l with
    | none =>
      rw [if_pos (by rw [(unc_none h0).2 hd]; decide)]
    | some q =>
      obtain ⟨c, n⟩ := q
      have hs := udec_some hd
      have hm := udec_more [34] hd
      obtain ⟨t1, t2⟩ := take_more hs.2.2.1 [34]
      rw [jtx_succ, unc_some hm, unn_some hm, t1, t2] at h
      rw [unc_some hd, unn_some hd]
      by_cases hc : (c : Int) < 32
      · rw [if_pos hc]
      · rw [if_neg hc] at h ⊢
        by_cases hq : l.take n = [34]
        · rw [if_pos hq] at h
          have := Option.some.inj h
          simp only [Prod.mk.injEq] at this
          exact absurd this.2 (by simp)
        · rw [if_neg hq] at h ⊢
          by_cases hb : l.take n = [92]
          · rw [if_pos hb] at h ⊢
            cases he : jesd (l.drop n ++ [34]) with
            | none => rw [he] at h; cases h
            | some q =>
              obtain ⟨p, r⟩ := q
              rw [he] at h
              simp only at h
              rcases jesd_more he with rfl | ⟨r', rfl, he'⟩
              · rw [jtx_nil] at h; cases h
              · rw [he']
                exact ih r' _ T h
          · rw [if_neg hb] at h ⊢
            exact ih _ _ T h
/-- What is written of a text, without its last quote, behind its first. -/
theorem jtb_text {T : List UInt8} (h : uval T = true) : ∃ f, jtb f (T.flatMap jesc) = true := by
  obtain ⟨f, hf⟩ := jtx_text h []
  exact ⟨f, jtb_of f _ [] T hf⟩
theorem jencT_cut7 {o : Own} {kids : List VT} (h : o.kind = 7) : (jencT (.mk o kids)).dropLast = 91 :: (jpcs (fun _ => []) (kids.map jencT)).flatten := by
  rw [jencT_mk, jO_7 h, List.dropLast_concat]
  rfl
theorem jencT_cut8 {o : Own} {kids : List VT} (h : o.kind = 8) : (jencT (.mk o kids)).dropLast = 123 :: (jpcs (jkey o.keys) (kids.map jencT)).flatten := by
  rw [jencT_mk, jO_8 h, List.dropLast_concat]
  rfl
theorem jencT_cut5 {o : Own} {kids : List VT} (h : o.kind = 5) : (jencT (.mk o kids)).dropLast = 34 :: o.text.data.toList.flatMap jesc := by
  rw [jencT_mk, jO_5 h]
  unfold jq
  rw [← List.cons_append, List.dropLast_concat]
end Go.Proofs.YtebfggiodhaahaaGreatDoor
end
section
namespace Go.Proofs.YtebfggiodhaahaaGreatDoor
open Go.RowKit Go.Shelf Go.Maps Go.Sort
set_option linter.unusedVariables false

def isS (c : UInt8) : Bool := c == 91 || c == 93 || c == 123 || c == 125 || c == 44 || c == 58
def ldB (k : Nat) : List UInt8 := (([32, 9, 10, 13] : List UInt8).drop k).take 1
def trB (k : Nat) : List UInt8 := ([13, 10, 9, 32] : List UInt8).drop k
/-- The text with blanks: at the place i, e: behind a backslash, n: inside a text. -/
def blk (K : Nat → Nat) : Nat → Bool → Bool → List UInt8 → List UInt8
  | _, _, _, [] => []
  | i, e, n, c :: t =>
    if e = true then c :: blk K (i + 1) false n t
    else if n = false ∧ isS c = true then ldB (K i) ++ c :: (trB (K i) ++ blk K (i + 1) false n t)
    else if n = true ∧ c = 92 then c :: blk K (i + 1) true n t
    else c :: blk K (i + 1) false (if c = 34 then !n else n) t
theorem all4 {l : List UInt8} (h : ∀ x ∈ l, x = 32 ∨ x = 9 ∨ x = 10 ∨ x = 13) : ∀ x ∈ l, jblank x = true := fun x hx => by
  rcases h x hx with rfl | rfl | rfl | rfl <;> rfl
theorem ldB_blank (k : Nat) : ∀ x ∈ ldB k, jblank x = true := all4 fun x hx => by
  have h1 : x ∈ ([32, 9, 10, 13] : List UInt8) := List.mem_of_mem_drop (List.mem_of_mem_take hx)
  simpa using h1
theorem trB_blank (k : Nat) : ∀ x ∈ trB k, jblank x = true := all4 fun x hx => by
  have h1 : x ∈ ([13, 10, 9, 32] : List UInt8) := List.mem_of_mem_drop hx
  simp at h1
  rcases h1 with rfl | rfl | rfl | rfl <;> simp
theorem skipB {l : List UInt8} (h : ∀ x ∈ l, jblank x = true) (X : List UInt8) : jskip (l ++ X) = jskip X := by unfold jskip; exact dropWhile_all X h
theorem stp_blank {l : List UInt8} (h : ∀ x ∈ l, jblank x = true) {c : UInt8} (X : List UInt8) (hc : c = 93 ∨ c = 125 ∨ c = 44) : Stp (l ++ c :: X) := by
  cases l with
  | nil => rcases hc with rfl | rfl | rfl <;> exact Stp.of (by decide)
  | cons b l =>
    have hb := h b (List.mem_cons_self ..)
    unfold jblank at hb
    have hb : b = 32 ∨ b = 9 ∨ b = 10 ∨ b = 13 := by simpa using hb
    rcases hb with rfl | rfl | rfl | rfl <;> exact Stp.of (by decide)
section
variable {K : Nat → Nat} {i : Nat} {c d : UInt8} {t : List UInt8}
theorem blk_S (h : isS c = true) : blk K i false false (c :: t) = ldB (K i) ++ c :: (trB (K i) ++ blk K (i + 1) false false t) := by rw [blk, if_neg (by decide), if_pos ⟨rfl, h⟩]
theorem blk_O (h : isS c = false) (h2 : c ≠ 34) : blk K i false false (c :: t) = c :: blk K (i + 1) false false t := by
  rw [blk, if_neg (by decide), if_neg (by rw [h]; simp), if_neg (by simp), if_neg h2]
theorem blk_Q : blk K i false false (34 :: t) = 34 :: blk K (i + 1) false true t := by
  rw [blk, if_neg (by decide), if_neg (by decide), if_neg (by simp), if_pos rfl]
  rfl
theorem blk_I (h : c ≠ 34) (h2 : c ≠ 92) : blk K i false true (c :: t) = c :: blk K (i + 1) false true t := by
  rw [blk, if_neg (by decide), if_neg (by simp), if_neg (by simp [h2]), if_neg h]
theorem blk_E : blk K i false true (92 :: d :: t) = 92 :: d :: blk K (i + 2) false true t := by
  rw [blk, if_neg (by decide), if_neg (by simp), if_pos ⟨rfl, rfl⟩, blk, if_pos rfl]
theorem blk_N : blk K i false true (34 :: t) = 34 :: blk K (i + 1) false false t := by
  rw [blk, if_neg (by decide), if_neg (by simp), if_neg (by decide), if_pos rfl]
  rfl
end
def Wrd (K : Nat → Nat) (l : List UInt8) : Prop := ∀ i R, blk K i false false (l ++ R) = l ++ blk K (i + l.length) false false R
def Inn (K : Nat → Nat) (l : List UInt8) : Prop := ∀ i R, blk K i false true (l ++ R) = l ++ blk K (i + l.length) false true R
theorem wrd_of {K : Nat → Nat} : ∀ {l : List UInt8}, (∀ c ∈ l, isS c = false ∧ c ≠ 34) → Wrd K l := by
  intro l
  induction l with
  | nil => intro _ i R; rfl
  | cons c l ih =>
    intro h i R
    have h1 := h c (List.mem_cons_self ..)
    rw [List.cons_append, blk_O h1.1 h1.2, ih (fun x hx => h x (List.mem_cons_of_mem _ hx)), List.length_cons, List.cons_append, show i + 1 + l.length = i + (l.length + 1) by omega]
theorem inn_app {K : Nat → Nat} {l m : List UInt8} (h : Inn K l) (k : Inn K m) : Inn K (l ++ m) := by
  intro i R
  rw [List.append_assoc, h, k, List.length_append, List.append_assoc, show i + l.length + m.length = i + (l.length + m.length) by omega]
theorem inn_nil (K : Nat → Nat) : Inn K [] := fun i R => rfl
theorem inn_one (K : Nat → Nat) {c : UInt8} (h : c ≠ 34) (h2 : c ≠ 92) : Inn K [c] := fun i R => blk_I h h2
theorem inn_esc (K : Nat → Nat) (d : UInt8) : Inn K [92, d] := fun i R => blk_E
theorem jhex_all : ∀ n ∈ List.range 16, jhex n ≠ 34 ∧ jhex n ≠ 92 := by decide +kernel
theorem inn_jesc (K : Nat → Nat) (c : UInt8) : Inn K (jesc c) := by
  have hc := c.toNat_lt
  have e1 := jhex_all (c.toNat / 16) (List.mem_range.2 (by omega))
  have e2 := jhex_all (c.toNat % 16) (List.mem_range.2 (by omega))
  unfold jesc
  by_cases h1 : c = 34
  · rw [if_pos h1]; exact inn_esc K _
  by_cases h2 : c = 92
  · rw [if_neg h1, if_pos h2]; exact inn_esc K _
  rw [if_neg h1, if_neg h2]
  by_cases h3 : c = 8
  · rw [if_pos h3]; exact inn_esc K _
  rw [if_neg h3]
  by_cases h4 : c = 12
  · rw [if_pos h4]; exact inn_esc K _
  rw [if_neg h4]
  by_cases h5 : c = 10
  · rw [if_pos h5]; exact inn_esc K _
  rw [if_neg h5]
  by_cases h6 : c = 13
  · rw [if_pos h6]; exact inn_esc K _
  rw [if_neg h6]
  by_cases h7 : c = 9
  · rw [if_pos h7]; exact inn_esc K _
  rw [if_neg h7]
  by_cases h8 : c.toNat < 32
  · rw [if_pos h8]
    exact inn_app (inn_esc K 117) (inn_app (inn_one K (c := 48) (by decide) (by decide)) (inn_app (inn_one K (c := 48) (by decide) (by decide)) (inn_app (inn_one K e1.1 e1.2) (inn_one K e2.1 e2.2))))
  · rw [if_neg h8]; exact inn_one K h1 h2
theorem inn_text (K : Nat → Nat) : ∀ (T : List UInt8), Inn K (T.flatMap jesc) := by
  intro T
  induction T with
  | nil => exact inn_nil K
  | cons c T ih => rw [List.flatMap_cons]; exact inn_app (inn_jesc K c) ih
theorem wrd_jq (K : Nat → Nat) (T : List UInt8) : Wrd K (jq T) := by
  intro i R
  have e : (jq T).length = (T.flatMap jesc).length + 2 := by unfold jq; simp
  rw [jq_app, blk_Q, inn_text K T, blk_N, e, jq_app, show i + 1 + (T.flatMap jesc).length + 1 = i + ((T.flatMap jesc).length + 2) by omega]
theorem dig_word {c : UInt8} (h : dfig c = true) : isS c = false ∧ c ≠ 34 := by
  unfold dfig at h
  have h1 := of_decide_eq_true h
  have hne : ∀ d : UInt8, ¬ (48 ≤ d.toNat ∧ d.toNat ≤ 57) → c ≠ d := fun d hd e => hd (e ▸ h1)
  refine ⟨?_, hne 34 (by decide)⟩
  unfold isS
  rw [beq_eq_false_iff_ne.2 (hne 91 (by decide)), beq_eq_false_iff_ne.2 (hne 93 (by decide)), beq_eq_false_iff_ne.2 (hne 123 (by decide)), beq_eq_false_iff_ne.2 (hne 125 (by decide)), beq_eq_false_iff_ne.2 (hne 44 (by decide)), beq_eq_false_iff_ne.2 (hne 58 (by decide))]
  rfl
theorem wrd_int (K : Nat → Nat) (g : Bool) (x : Nat) : Wrd K (jint g x) := wrd_of fun c hc => by
  unfold jint at hc
  rcases List.mem_append.1 hc with h | h
  · cases g with
    | true => rw [if_pos rfl] at h; rw [List.mem_singleton.1 h]; decide
    | false => rw [if_neg (by decide)] at h; cases h
  · exact dig_word (dfig_dec x c h)
theorem wrd_ptx (K : Nat → Nat) {b : Nat} (hc : cls b = 1) : Wrd K (ptx b) := wrd_of fun c hm => by
  obtain ⟨A, B, he, hA, hB, _, _, _⟩ := ptx_parts hc
  rw [he] at hm
  rcases List.mem_append.1 hm with h | h
  · rcases List.mem_append.1 h with h | h
    · cases hs : sg b == 1 with
      | true => rw [hs, if_pos rfl] at h; rw [List.mem_singleton.1 h]; decide
      | false => rw [hs, if_neg (by decide)] at h; cases h
    · exact dig_word (hA c h)
  · rcases List.mem_cons.1 h with rfl | h
    · decide
    · exact dig_word (hB c h)
theorem jv_eq {l l' : List UInt8} {T : VT} {r : List UInt8} {lg un : Bool} (e : jskip l' = jskip l) (h : JV l T r lg un) : JV l' T r lg un := by
  cases h with
  | nul h => exact .nul (e.trans h)
  | fal h => exact .fal (e.trans h)
  | tru h => exact .tru (e.trans h)
  | txt f h hx => exact .txt f (e.trans h) hx
  | num h hc hk hx hy hd => exact .num (e.trans h) hc hk hx hy hd
  | lng h hc hd => exact .lng (e.trans h) hc hd
  | unr h hc hd => exact .unr (e.trans h) hc hd
  | arr0 h h2 => exact .arr0 (e.trans h) h2
  | arr h h2 ha => exact .arr (e.trans h) h2 ha
theorem jx_eq {l l' : List UInt8} {T : VT} {r : List UInt8} {lg un : Bool} (e : jskip l' = jskip l) (h : JX l T r lg un) : JX l' T r lg un := by
  cases h with
  | leaf h => exact .leaf (jv_eq e h)
  | arr h h2 ha => exact .arr (e.trans h) h2 ha
  | obj0 h h2 => exact .obj0 (e.trans h) h2
  | obj h h2 ho hn => exact .obj (e.trans h) h2 ho hn
theorem jap_eq {l l' : List UInt8} {ks : List VT} {r : List UInt8} {lg un : Bool} (e : jskip l' = jskip l) (h : JAP JX l ks r lg un) : JAP JX l' ks r lg un := by
  cases h with
  | last hv hl h => exact .last (jx_eq e hv) (by rw [e]; exact hl) h
  | more hv hl h ha => exact .more (jx_eq e hv) (by rw [e]; exact hl) h ha
theorem jn_eq {l l' x r : List UInt8} (e : jskip l' = jskip l) (h : JN l x r) : JN l' x r := by
  obtain ⟨f, t, r1, h1, h2, h3⟩ := h
  exact ⟨f, t, r1, e.trans h1, h2, h3⟩
theorem jo_eq {l l' : List UInt8} {kv : List (List UInt8 × VT)} {r : List UInt8} {lg un : Bool} (e : jskip l' = jskip l) (h : JO JX l kv r lg un) : JO JX l' kv r lg un := by
  cases h with
  | last hn hv hl h => exact .last (jn_eq e hn) hv hl h
  | more hn hv hl h ha => exact .more (jn_eq e hn) hv hl h ha
/-- With blanks it is read as it: B what is written, D the blanks behind its last bracket. -/
def BOK (K : Nat → Nat) (T : VT) : Prop := ∀ i, ∃ (B D t : List UInt8) (c : UInt8), (∀ R, blk K i false false (jencT T ++ R) = B ++ blk K (i + (jencT T).length) false false R) ∧ (∀ x ∈ D, jblank x = true) ∧ D.length ≤ t.length ∧ HdB c ∧ (∀ R, jskip (B ++ R) = c :: (t ++ R)) ∧ ∀ R, Stp R → JX (B ++ R) (er T) (D ++ R) false false
theorem bok_word {K : Nat → Nat} {T : VT} (h : Wrd K (jencT T)) (hr : Rd1 T) : BOK K T := by
  intro i
  obtain ⟨c, t, e, hc⟩ := hr.2
  refine ⟨jencT T, [], t, c, h i, fun x hx => (by cases hx), Nat.zero_le _, hc, fun R => ?_, fun R hR => hr.1 R hR⟩
  rw [hr.skip, e]
  rfl
theorem bap (K : Nat → Nat) : ∀ (kids : List VT) (T : VT) (j i : Nat), (∀ t ∈ T :: kids, BOK K t) → ∃ (E D t : List UInt8) (c : UInt8), (∀ R, blk K i false false (jencT T ++ (Gj (fun _ => []) (j + 1) (kids.map jencT) ++ 93 :: R)) = E ++ blk K (i + (jencT T ++ Gj (fun _ => []) (j + 1) (kids.map jencT)).length + 1) false false R) ∧ (∀ x ∈ D, jblank x = true) ∧ D.length ≤ t.length ∧ HdB c ∧ (∀ R, jskip (E ++ R) = c :: (t ++ R)) ∧ ∀ R, JAP JX (E ++ R) (er T :: kids.map er) (D ++ R) false false := by
  intro kids
  induction kids with
  | nil =>
    intro T j i h
    obtain ⟨B, D, t, c, h1, h2, h3, h4, h5, h6⟩ := h T (by simp) i
    obtain ⟨k, hk⟩ : ∃ k, K (i + (jencT T).length) = k := ⟨_, rfl⟩
    refine ⟨B ++ (ldB k ++ 93 :: trB k), trB k, t ++ (ldB k ++ 93 :: trB k), c, fun R => ?_, trB_blank k, by simp only [List.length_append, List.length_cons]; omega, h4, fun R => ?_, fun R => ?_⟩
    · have e : jencT T ++ (Gj (fun _ => []) (j + 1) (List.map jencT []) ++ 93 :: R) = jencT T ++ 93 :: R := rfl
      rw [e, h1, blk_S (by decide), hk]
      have e2 : jencT T ++ Gj (fun _ => []) (j + 1) (List.map jencT []) = jencT T := List.append_nil _
      rw [e2]
      simp
    · rw [List.append_assoc, h5]
      simp
    · have e : B ++ (ldB k ++ 93 :: trB k) ++ R = B ++ (ldB k ++ 93 :: (trB k ++ R)) := by simp
      rw [e]
      refine JAP.last (r1 := D ++ (ldB k ++ 93 :: (trB k ++ R))) (h6 _ (stp_blank (ldB_blank k) _ (Or.inl rfl))) ?_ ?_
      · rw [h5]; simp only [List.length_append, List.length_cons]; omega
      · rw [skipB h2, skipB (ldB_blank k)]; exact skip_no (by decide)
  | cons T2 kids ih =>
    intro T j i h
    obtain ⟨B, D, t, c, h1, h2, h3, h4, h5, h6⟩ := h T (by simp) i
    obtain ⟨k, hk⟩ : ∃ k, K (i + (jencT T).length) = k := ⟨_, rfl⟩
    obtain ⟨E, D2, t2, c2, g1, g2, g3, g4, g5, g6⟩ := ih T2 (j + 1) (i + (jencT T).length + 1) (fun t ht => h t (List.mem_cons_of_mem _ ht))
    refine ⟨B ++ (ldB k ++ 44 :: (trB k ++ E)), D2, t ++ (ldB k ++ 44 :: (trB k ++ E)), c, fun R => ?_, g2, ?_, h4, fun R => ?_, fun R => ?_⟩
    · have e : jencT T ++ (Gj (fun _ => []) (j + 1) ((T2 :: kids).map jencT) ++ 93 :: R) = jencT T ++ (44 :: (jencT T2 ++ (Gj (fun _ => []) (j + 2) (kids.map jencT) ++ 93 :: R))) := by
        rw [List.map_cons, Gj_cons]
        simp
      have e2 : (jencT T ++ Gj (fun _ => []) (j + 1) ((T2 :: kids).map jencT)).length = (jencT T).length + 1 + (jencT T2 ++ Gj (fun _ => []) (j + 2) (kids.map jencT)).length := by
        rw [List.map_cons, Gj_cons]
        simp only [List.length_append, List.length_cons, List.nil_append]
        omega
      have e2b : (jencT T ++ Gj (fun _ => []) (j + 1) ((T2 :: kids).map jencT)).length = (jencT T).length + 1 + (jencT T2 ++ Gj (fun _ => []) (j + 1 + 1) (kids.map jencT)).length := e2
      rw [e, h1, blk_S (by decide), hk, g1, e2b]
      have e3 : i + (jencT T).length + 1 + (jencT T2 ++ Gj (fun _ => []) (j + 1 + 1) (kids.map jencT)).length + 1 = i + ((jencT T).length + 1 + (jencT T2 ++ Gj (fun _ => []) (j + 1 + 1) (kids.map jencT)).length) + 1 := by omega
      rw [e3]
      simp
    · have := g5 []
      have h9 := jskip_len E
      rw [List.append_nil, List.append_nil] at this
      rw [this, List.length_cons] at h9
      simp only [List.length_append, List.length_cons]
      omega
    · rw [List.append_assoc, h5]
      simp
    · have e : B ++ (ldB k ++ 44 :: (trB k ++ E)) ++ R = B ++ (ldB k ++ 44 :: (trB k ++ (E ++ R))) := by simp
      rw [e]
      refine JAP.more (r1 := D ++ (ldB k ++ 44 :: (trB k ++ (E ++ R)))) (t2 := trB k ++ (E ++ R)) (lg := false) (un := false) (lg2 := false) (un2 := false) (h6 _ (stp_blank (ldB_blank k) _ (Or.inr (Or.inr rfl)))) ?_ ?_ (jap_eq (skipB (trB_blank k) _) (g6 R))
      · rw [h5]; simp only [List.length_append, List.length_cons]; omega
      · rw [skipB h2, skipB (ldB_blank k)]; exact skip_no (by decide)
end Go.Proofs.YtebfggiodhaahaaGreatDoor
end
section
namespace Go.Proofs.YtebfggiodhaahaaGreatDoor
open Go.RowKit Go.Shelf Go.Maps Go.Sort
set_option linter.unusedVariables false

theorem jn_textB {T : List UInt8} (h : uval T = true) (a : Nat) (r : List UInt8) : JN (jq T ++ (ldB a ++ 58 :: r)) T r := by
  obtain ⟨f, hf⟩ := jtx_text h (ldB a ++ 58 :: r)
  rw [jq_app]
  exact ⟨f, _, _, skip_no (by decide), hf, by rw [skipB (ldB_blank a)]; exact skip_no (by decide)⟩
theorem bop (K : Nat → Nat) (KS : List ByteArray) (hKS : namesB KS = true) : ∀ (kids : List VT) (T : VT) (j i : Nat), kids.length + j + 1 = KS.length → (∀ t ∈ T :: kids, BOK K t) → ∃ (E D t : List UInt8), (∀ R, blk K i false false (jkey KS j ++ (jencT T ++ (Gj (jkey KS) (j + 1) (kids.map jencT) ++ 125 :: R))) = E ++ blk K (i + (jkey KS j ++ (jencT T ++ Gj (jkey KS) (j + 1) (kids.map jencT))).length + 1) false false R) ∧ (∀ x ∈ D, jblank x = true) ∧ D.length ≤ t.length ∧ E = 34 :: t ∧ ∀ R, JO JX (E ++ R) (((KS.getD j ⟨#[]⟩).data.toList, er T) :: ((KS.drop (j + 1)).map fun s => s.data.toList).zip (kids.map er)) (D ++ R) false false := by
  intro kids
  induction kids with
  | nil =>
    intro T j i hl h
    have hd : KS.drop (j + 1) = [] := List.drop_eq_nil_of_le (by simp at hl; omega)
    obtain ⟨q, hq⟩ : ∃ q, (KS.getD j ⟨#[]⟩).data.toList = q := ⟨_, rfl⟩
    have hv : uval q = true := by rw [← hq]; exact names_val hKS (by omega)
    obtain ⟨a, ha⟩ : ∃ a, K (i + (jq q).length) = a := ⟨_, rfl⟩
    obtain ⟨B, D, t, c, h1, h2, h3, h4, h5, h6⟩ := h T (by simp) (i + (jq q).length + 1)
    obtain ⟨k, hk⟩ : ∃ k, K (i + (jq q).length + 1 + (jencT T).length) = k := ⟨_, rfl⟩
    have hB : t.length + 1 ≤ B.length := by
      have h8 := h5 []
      have h9 := jskip_len B
      rw [List.append_nil, List.append_nil] at h8
      rw [h8, List.length_cons] at h9
      exact h9
    refine ⟨jq q ++ (ldB a ++ 58 :: (trB a ++ (B ++ (ldB k ++ 125 :: trB k)))), trB k, q.flatMap jesc ++ 34 :: (ldB a ++ 58 :: (trB a ++ (B ++ (ldB k ++ 125 :: trB k)))), fun R => ?_, trB_blank k, by simp only [List.length_append, List.length_cons]; omega, jq_app _ _, fun R => ?_⟩
    · have e : jkey KS j ++ (jencT T ++ (Gj (jkey KS) (j + 1) (List.map jencT []) ++ 125 :: R)) = jq q ++ 58 :: (jencT T ++ 125 :: R) := by
        rw [show jkey KS j = jq q ++ [58] from by rw [← hq]; rfl, List.append_assoc]
        rfl
      have e2 : (jkey KS j ++ (jencT T ++ Gj (jkey KS) (j + 1) (List.map jencT []))).length = (jq q).length + 1 + (jencT T).length := by
        rw [show jkey KS j = jq q ++ [58] from by rw [← hq]; rfl, show Gj (jkey KS) (j + 1) (List.map jencT []) = [] from rfl]
        simp
        omega
      rw [e, wrd_jq K q, blk_S (by decide), ha, h1, blk_S (by decide), hk, e2, show i + (jq q).length + 1 + (jencT T).length + 1 = i + ((jq q).length + 1 + (jencT T).length) + 1 by omega]
      simp
    · have e : jq q ++ (ldB a ++ 58 :: (trB a ++ (B ++ (ldB k ++ 125 :: trB k)))) ++ R = jq q ++ (ldB a ++ 58 :: (trB a ++ (B ++ (ldB k ++ 125 :: (trB k ++ R))))) := by simp
      rw [e, hd, hq]
      refine JO.last (r2 := trB a ++ (B ++ (ldB k ++ 125 :: (trB k ++ R)))) (r3 := D ++ (ldB k ++ 125 :: (trB k ++ R))) (jn_textB hv a _) (jx_eq (skipB (trB_blank a) _) (h6 _ (stp_blank (ldB_blank k) _ (Or.inr (Or.inl rfl))))) ?_ ?_
      · simp only [List.length_append, List.length_cons]; omega
      · rw [skipB h2, skipB (ldB_blank k)]; exact skip_no (by decide)
  | cons T2 kids ih =>
    intro T j i hl h
    rw [List.length_cons] at hl
    have hlt : j + 1 < KS.length := by omega
    have hd : KS.drop (j + 1) = KS[j + 1] :: KS.drop (j + 2) := List.drop_eq_getElem_cons hlt
    have hg : KS.getD (j + 1) ⟨#[]⟩ = KS[j + 1] := getD_at (List.getElem?_eq_getElem hlt)
    obtain ⟨q, hq⟩ : ∃ q, (KS.getD j ⟨#[]⟩).data.toList = q := ⟨_, rfl⟩
    have hv : uval q = true := by rw [← hq]; exact names_val hKS (by omega)
    obtain ⟨a, ha⟩ : ∃ a, K (i + (jq q).length) = a := ⟨_, rfl⟩
    obtain ⟨B, D, t, c, h1, h2, h3, h4, h5, h6⟩ := h T (by simp) (i + (jq q).length + 1)
    obtain ⟨k, hk⟩ : ∃ k, K (i + (jq q).length + 1 + (jencT T).length) = k := ⟨_, rfl⟩
    obtain ⟨E, D2, t2, g1, g2, g3, g5, g6⟩ := ih T2 (j + 1) (i + (jq q).length + 1 + (jencT T).length + 1) (by omega) (fun t ht => h t (List.mem_cons_of_mem _ ht))
    have hB : t.length + 1 ≤ B.length := by
      have h8 := h5 []
      have h9 := jskip_len B
      rw [List.append_nil, List.append_nil] at h8
      rw [h8, List.length_cons] at h9
      exact h9
    have hE : E.length = t2.length + 1 := by rw [g5, List.length_cons]
    refine ⟨jq q ++ (ldB a ++ 58 :: (trB a ++ (B ++ (ldB k ++ 44 :: (trB k ++ E))))), D2, q.flatMap jesc ++ 34 :: (ldB a ++ 58 :: (trB a ++ (B ++ (ldB k ++ 44 :: (trB k ++ E))))), fun R => ?_, g2, by simp only [List.length_append, List.length_cons]; omega, jq_app _ _, fun R => ?_⟩
    · have e : jkey KS j ++ (jencT T ++ (Gj (jkey KS) (j + 1) ((T2 :: kids).map jencT) ++ 125 :: R)) = jq q ++ 58 :: (jencT T ++ (44 :: (jkey KS (j + 1) ++ (jencT T2 ++ (Gj (jkey KS) (j + 1 + 1) (kids.map jencT) ++ 125 :: R))))) := by
        rw [List.map_cons, Gj_cons, show jkey KS j = jq q ++ [58] from by rw [← hq]; rfl]
        simp
      have e2 : (jkey KS j ++ (jencT T ++ Gj (jkey KS) (j + 1) ((T2 :: kids).map jencT))).length = (jq q).length + 1 + (jencT T).length + 1 + (jkey KS (j + 1) ++ (jencT T2 ++ Gj (jkey KS) (j + 1 + 1) (kids.map jencT))).length := by
        rw [List.map_cons, Gj_cons, show jkey KS j = jq q ++ [58] from by rw [← hq]; rfl, show j + 2 = j + 1 + 1 from rfl]
        simp only [List.length_append, List.length_cons, List.length_nil]
        omega
      rw [e, wrd_jq K q, blk_S (by decide), ha, h1, blk_S (by decide), hk, g1, e2, show i + (jq q).length + 1 + (jencT T).length + 1 + (jkey KS (j + 1) ++ (jencT T2 ++ Gj (jkey KS) (j + 1 + 1) (kids.map jencT))).length + 1 = i + ((jq q).length + 1 + (jencT T).length + 1 + (jkey KS (j + 1) ++ (jencT T2 ++ Gj (jkey KS) (j + 1 + 1) (kids.map jencT))).length) + 1 by omega]
      simp
    · have e : jq q ++ (ldB a ++ 58 :: (trB a ++ (B ++ (ldB k ++ 44 :: (trB k ++ E))))) ++ R = jq q ++ (ldB a ++ 58 :: (trB a ++ (B ++ (ldB k ++ 44 :: (trB k ++ (E ++ R)))))) := by simp
      rw [e, hd, hq, List.map_cons, List.map_cons, List.zip_cons_cons, ← hg]
      refine JO.more (r2 := trB a ++ (B ++ (ldB k ++ 44 :: (trB k ++ (E ++ R))))) (r3 := D ++ (ldB k ++ 44 :: (trB k ++ (E ++ R)))) (l2 := trB k ++ (E ++ R)) (lg := false) (un := false) (lg2 := false) (un2 := false) (jn_textB hv a _) (jx_eq (skipB (trB_blank a) _) (h6 _ (stp_blank (ldB_blank k) _ (Or.inr (Or.inr rfl))))) ?_ ?_ (jo_eq (skipB (trB_blank k) _) (g6 R))
      · simp only [List.length_append, List.length_cons]; omega
      · rw [skipB h2, skipB (ldB_blank k)]; exact skip_no (by decide)
/-- Every value that may be, with blanks between all its parts. -/
theorem bok_all (K : Nat → Nat) : ∀ (T : VT), hasT wrongT T = false → hasT notJsonT T = false → T.Every Wr → BOK K T := by
  intro T
  induction T using VT.ind with
  | h o kids ih =>
    intro hw hj hE
    have ho : ownB o kids.length = true := by have := (hasT_false hw).1; unfold wrongT at this; simpa using this
    have hor : outB o kids.length = true ∧ restB o kids.length = true := by unfold ownB at ho; rwa [Bool.and_eq_true] at ho
    have hrd : Rd1 (.mk o kids) := ⟨jx_enc _ hw hj hE, jenc_head _ hw hj⟩
    have hkid : ∀ t ∈ kids, BOK K t := fun t ht => ih t ht ((hasT_false hw).2 t ht) ((hasT_false hj).2 t ht) (hE.mem ht)
    have hstd := fun R hR => hrd.1 R hR
    rcases own_kind ho with h | h | h | h | h | h | h | h
    · exact bok_word (by rw [jencT_mk, jO_1 h]; exact wrd_of (by decide)) hrd
    · exact bok_word (by
        rw [jencT_mk, jO_2 h]
        split
        · exact wrd_of (by decide)
        · exact wrd_of (by decide)) hrd
    · exact bok_word (by rw [jencT_mk, jO_3 h]; exact wrd_int K _ _) hrd
    · exact bok_word (by rw [jencT_mk, jO_4 h]; exact wrd_ptx K (json_cls hj h)) hrd
    · exact bok_word (by rw [jencT_mk, jO_5 h]; exact wrd_jq K _) hrd
    · exact absurd h (json_6 hj)
    · intro i
      have her : er (.mk o kids) = arrE (kids.map er) := by
        obtain ⟨hx, hb0, hb1⟩ := hE.own
        obtain ⟨f1, f2, f3, f4, f5⟩ := out_factsJ hx hor.1
        rw [er_mk]
        obtain ⟨kd, g, x, bits, text, la, lc, ka, kc, keys⟩ := o
        simp only at h f1 f2 f3 f4 ⊢
        obtain ⟨rfl, rfl⟩ := f1 (by omega)
        obtain rfl := f2 (by omega) (by omega)
        obtain rfl := text_nil (f3 (by omega) (by omega))
        obtain rfl := f4 (by omega)
        subst h
        rfl
      obtain ⟨a, ha⟩ : ∃ a, K i = a := ⟨_, rfl⟩
      rw [her, jencT_mk, jO_7 h]
      cases kids with
      | nil =>
        obtain ⟨k, hk⟩ : ∃ k, K (i + 1) = k := ⟨_, rfl⟩
        refine ⟨ldB a ++ 91 :: (trB a ++ (ldB k ++ 93 :: trB k)), trB k, trB a ++ (ldB k ++ 93 :: trB k), 91, fun R => ?_, trB_blank k, by simp only [List.length_append, List.length_cons]; omega, by unfold HdB; simp, fun R => ?_, fun R hR => ?_⟩
        · show blk K i false false (91 :: (93 :: R)) = _
          rw [blk_S (by decide), ha, blk_S (by decide), hk]
          show _ = _ ++ blk K (i + 2) false false R
          simp
        · rw [List.append_assoc, skipB (ldB_blank a)]
          exact skip_no (by decide)
        · refine .leaf (.arr0 (t := trB a ++ (ldB k ++ 93 :: trB k) ++ R) ?_ ?_)
          · rw [List.append_assoc, skipB (ldB_blank a)]
            exact skip_no (by decide)
          · rw [List.append_assoc, skipB (trB_blank a), List.append_assoc, skipB (ldB_blank k)]
            exact skip_no (by decide)
      | cons T ks =>
        obtain ⟨E, D, t, c, g1, g2, g3, g4, g5, g6⟩ := bap K ks T 0 (i + 1) (fun t ht => hkid t ht)
        have hE0 := g5 []
        have hEl := jskip_len E
        rw [List.append_nil, List.append_nil] at hE0
        rw [hE0, List.length_cons] at hEl
        refine ⟨ldB a ++ 91 :: (trB a ++ E), D, trB a ++ E, 91, fun R => ?_, g2, by simp only [List.length_append]; omega, by unfold HdB; simp, fun R => ?_, fun R hR => ?_⟩
        · have e : [91] ++ (jpcs (fun _ => []) (List.map jencT (T :: ks))).flatten ++ [93] ++ R = 91 :: (jencT T ++ (Gj (fun _ => []) (0 + 1) (ks.map jencT) ++ 93 :: R)) := by
            rw [List.map_cons, jpcs_first]
            simp
          have e2 : ([91] ++ (jpcs (fun _ => []) (List.map jencT (T :: ks))).flatten ++ [93]).length = 1 + (jencT T ++ Gj (fun _ => []) (0 + 1) (ks.map jencT)).length + 1 := by
            rw [List.map_cons, jpcs_first]
            simp only [List.length_append, List.length_cons, List.length_nil, Nat.zero_add]
          rw [e, blk_S (by decide), ha, g1, e2, show i + 1 + (jencT T ++ Gj (fun _ => []) (0 + 1) (ks.map jencT)).length + 1 = i + (1 + (jencT T ++ Gj (fun _ => []) (0 + 1) (ks.map jencT)).length + 1) by omega]
          simp
        · rw [List.append_assoc, skipB (ldB_blank a)]
          exact skip_no (by decide)
        · refine .arr (t := trB a ++ E ++ R) ?_ ?_ ?_
          · rw [List.append_assoc, skipB (ldB_blank a)]
            exact skip_no (by decide)
          · rw [List.append_assoc, skipB (trB_blank a), g5]
            exact pre_no (g4.no 93 (by unfold HdB; decide))
          · refine jap_eq ?_ (g6 R)
            rw [jskip_id, List.append_assoc, skipB (trB_blank a)]
    · intro i
      obtain ⟨hlen, hnm⟩ := rest_8 h hor.2
      obtain ⟨a, ha⟩ : ∃ a, K i = a := ⟨_, rfl⟩
      have her : ∀ kv : List (List UInt8 × VT), kv = (o.keys.map fun s => s.data.toList).zip (kids.map er) → er (.mk o kids) = objO kv ∧ (kv.map Prod.fst).Nodup := by
        intro kv hkv
        obtain ⟨hx, hb0, hb1⟩ := hE.own
        obtain ⟨f1, f2, f3, f4, f5⟩ := out_factsJ hx hor.1
        have h1 : kv.map Prod.fst = o.keys.map fun s => s.data.toList := by rw [hkv]; exact List.map_fst_zip (by rw [List.length_map, List.length_map]; omega)
        have h2 : kv.map Prod.snd = kids.map er := by rw [hkv]; exact List.map_snd_zip (by rw [List.length_map, List.length_map]; omega)
        have h3 := names_apart hnm
        rw [← h1] at h3
        refine ⟨?_, rise_nodup h3⟩
        have h4 : kv.map (fun p => str p.1) = o.keys := by
          rw [show kv.map (fun p => str p.1) = (kv.map Prod.fst).map str from by rw [List.map_map]; rfl, h1, List.map_map]
          exact (List.map_congr_left (fun s _ => str_of s)).trans (List.map_id _)
        unfold objO
        rw [srt_id h3, h2, h4, er_mk]
        obtain ⟨kd, g, x, bits, text, la, lc, ka, kc, keys⟩ := o
        simp only at h f1 f2 f3 f4 ⊢
        obtain ⟨rfl, rfl⟩ := f1 (by omega)
        obtain rfl := f2 (by omega) (by omega)
        obtain rfl := text_nil (f3 (by omega) (by omega))
        subst h
        rfl
      cases kids with
      | nil =>
        have hk0 : o.keys = [] := List.length_eq_zero_iff.1 hlen
        have he := (her [] (by rw [hk0]; rfl)).1
        obtain ⟨k, hk⟩ : ∃ k, K (i + 1) = k := ⟨_, rfl⟩
        rw [he, jencT_mk, jO_8 h]
        refine ⟨ldB a ++ 123 :: (trB a ++ (ldB k ++ 125 :: trB k)), trB k, trB a ++ (ldB k ++ 125 :: trB k), 123, fun R => ?_, trB_blank k, by simp only [List.length_append, List.length_cons]; omega, by unfold HdB; simp, fun R => ?_, fun R hR => ?_⟩
        · show blk K i false false (123 :: (125 :: R)) = _
          rw [blk_S (by decide), ha, blk_S (by decide), hk]
          show _ = _ ++ blk K (i + 2) false false R
          simp
        · rw [List.append_assoc, skipB (ldB_blank a)]
          exact skip_no (by decide)
        · refine .obj0 (t := trB a ++ (ldB k ++ 125 :: trB k) ++ R) ?_ ?_
          · rw [List.append_assoc, skipB (ldB_blank a)]
            exact skip_no (by decide)
          · rw [List.append_assoc, skipB (trB_blank a), List.append_assoc, skipB (ldB_blank k)]
            exact skip_no (by decide)
      | cons T ks =>
        rw [List.length_cons] at hlen
        have hlt : 0 < o.keys.length := by omega
        have hd : o.keys = o.keys[0] :: o.keys.drop 1 := by
          have := List.drop_eq_getElem_cons (i := 0) (l := o.keys) hlt
          rwa [List.drop_zero] at this
        have hg : o.keys.getD 0 ⟨#[]⟩ = o.keys[0] := getD_at (List.getElem?_eq_getElem hlt)
        have hkv : ((o.keys.getD 0 ⟨#[]⟩).data.toList, er T) :: ((o.keys.drop (0 + 1)).map fun s => s.data.toList).zip (ks.map er) = (o.keys.map fun s => s.data.toList).zip ((T :: ks).map er) := by
          rw [hg, show (o.keys.map fun s => s.data.toList) = o.keys[0].data.toList :: (o.keys.drop 1).map (fun s => s.data.toList) from by conv => lhs; rw [hd]; rw [List.map_cons], List.map_cons, List.zip_cons_cons]
        obtain ⟨e1, e9⟩ := her _ hkv
        obtain ⟨E, D, t, g1, g2, g3, g5, g6⟩ := bop K o.keys hnm ks T 0 (i + 1) (by omega) (fun t ht => hkid t ht)
        have hE9 : E.length = t.length + 1 := by rw [g5, List.length_cons]
        rw [e1, jencT_mk, jO_8 h]
        refine ⟨ldB a ++ 123 :: (trB a ++ E), D, trB a ++ E, 123, fun R => ?_, g2, by simp only [List.length_append]; omega, by unfold HdB; simp, fun R => ?_, fun R hR => ?_⟩
        · have e : [123] ++ (jpcs (jkey o.keys) (List.map jencT (T :: ks))).flatten ++ [125] ++ R = 123 :: (jkey o.keys 0 ++ (jencT T ++ (Gj (jkey o.keys) (0 + 1) (ks.map jencT) ++ 125 :: R))) := by
            rw [List.map_cons, jpcs_first]
            simp
          have e2 : ([123] ++ (jpcs (jkey o.keys) (List.map jencT (T :: ks))).flatten ++ [125]).length = 1 + (jkey o.keys 0 ++ (jencT T ++ Gj (jkey o.keys) (0 + 1) (ks.map jencT))).length + 1 := by
            rw [List.map_cons, jpcs_first]
            simp only [List.length_append, List.length_cons, List.length_nil, Nat.zero_add]
          rw [e, blk_S (by decide), ha, g1, e2, show i + 1 + (jkey o.keys 0 ++ (jencT T ++ Gj (jkey o.keys) (0 + 1) (ks.map jencT))).length + 1 = i + (1 + (jkey o.keys 0 ++ (jencT T ++ Gj (jkey o.keys) (0 + 1) (ks.map jencT))).length + 1) by omega]
          simp
        · rw [List.append_assoc, skipB (ldB_blank a)]
          exact skip_no (by decide)
        · refine .obj (t := trB a ++ E ++ R) ?_ ?_ ?_ e9
          · rw [List.append_assoc, skipB (ldB_blank a)]
            exact skip_no (by decide)
          · rw [List.append_assoc, skipB (trB_blank a), g5, List.cons_append, skip_no (by decide)]
            exact pre_no (by decide)
          · refine jo_eq ?_ (g6 R)
            rw [jskip_id, List.append_assoc, skipB (trB_blank a)]
end Go.Proofs.YtebfggiodhaahaaGreatDoor
end
