/-
  UTF-8 as lists of bytes: plain facts, no Go. For every list.
-/
import Derived.Test.YtoibaeilbolffaaRows
import Derived.WalkKit
namespace Go.Proofs.Ytoibaeilbolffaa
/-- A first byte's size. -/
def usz (b : Nat) : Nat := if b < 128 then 1 else if b < 192 then 0 else if b < 224 then 2 else if b < 240 then 3 else if b < 248 then 4 else 0
/-- A first byte's uown bits. -/
def uown (b : Nat) : Nat := if b < 128 then b else if b < 192 then 0 else if b < 224 then b - 192 else if b < 240 then b - 224 else if b < 248 then b - 240 else 0
def ucon (b : Nat) : Bool := decide (128 ≤ b ∧ b < 192)
/-- A code point's size; 0 of what is none. -/
def ulng (c : Nat) : Nat := if 1114111 < c ∨ (55296 ≤ c ∧ c ≤ 57343) then 0 else if c < 128 then 1 else if c < 2048 then 2 else if c < 65536 then 3 else 4
def uacc : Nat → Nat → List UInt8 → Option Nat
  | c, 0, _ => some c
  | _, _ + 1, [] => none
  | c, k + 1, b :: r => if ucon b.toNat then uacc (c * 64 + (b.toNat - 128)) k r else none
def udec : List UInt8 → Option (Nat × Nat)
  | [] => none
  | b :: r => if usz b.toNat = 0 then none else
    match uacc (uown b.toNat) (usz b.toNat - 1) r with
    | none => none
    | some c => if ulng c = usz b.toNat then some (c, usz b.toNat) else none
def unc (l : List UInt8) : Int := if l = [] then 0 else match udec l with | some (c, _) => c | none => -1
def unn (l : List UInt8) : Nat := if l = [] then 0 else match udec l with | some (_, n) => n | none => 1

theorem usz_le (b : Nat) : usz b ≤ 4 := by unfold usz; (repeat' split) <;> omega
theorem uacc_len : ∀ (k c : Nat) (l : List UInt8) (d : Nat), uacc c k l = some d → k ≤ l.length
  | 0, _, _, _, _ => Nat.zero_le _
  | _ + 1, _, [], _, h => by simp [uacc] at h
  | k + 1, c, b :: r, d, h => by
    simp only [uacc] at h
    split at h
    · have := uacc_len k _ r d h; simp; omega
    · cases h
theorem uacc_more : ∀ (k c : Nat) (l m : List UInt8) (d : Nat), uacc c k l = some d → uacc c k (l ++ m) = some d
  | 0, _, _, _, _, h => by simpa [uacc] using h
  | _ + 1, _, [], _, _, h => by simp [uacc] at h
  | k + 1, c, b :: r, m, d, h => by
    simp only [uacc, List.cons_append] at h ⊢
    split at h
    · rename_i hc; rw [if_pos hc]; exact uacc_more k _ r m d h
    · cases h
theorem udec_some {l : List UInt8} {c n : Nat} (h : udec l = some (c, n)) : 1 ≤ n ∧ n ≤ 4 ∧ n ≤ l.length ∧ ulng c = n := by
  cases l with
  | nil => simp [udec] at h
  | cons b r =>
    simp only [udec] at h
    split at h
    · cases h
    · rename_i hz
      split at h
      · cases h
      · rename_i d hd
        split at h
        · rename_i hl
          cases h
          have := uacc_len _ _ _ _ hd
          have := usz_le b.toNat
          simp only [List.length_cons]
          omega
        · cases h
theorem udec_more {l : List UInt8} (m : List UInt8) {c n : Nat} (h : udec l = some (c, n)) : udec (l ++ m) = some (c, n) := by
  cases l with
  | nil => simp [udec] at h
  | cons b r =>
    simp only [udec, List.cons_append] at h ⊢
    split at h
    · cases h
    · rename_i hz
      rw [if_neg hz]
      split at h
      · cases h
      · rename_i d hd
        rw [uacc_more _ _ _ m _ hd]
        exact h
theorem unn_pos {l : List UInt8} (h : l ≠ []) : 1 ≤ unn l ∧ unn l ≤ 4 ∧ unn l ≤ l.length := by
  unfold unn
  rw [if_neg h]
  have hl : 1 ≤ l.length := by cases l with | nil => exact absurd rfl h | cons => simp
  split
  · rename_i c n hd; have := udec_some hd; omega
  · omega
theorem unc_lo (l : List UInt8) : -1 ≤ unc l := by
  unfold unc; split
  · omega
  · split <;> omega
theorem unc_none {l : List UInt8} (h : l ≠ []) : unc l = -1 ↔ udec l = none := by
  unfold unc; rw [if_neg h]
  split
  · rename_i c n hd; rw [hd]; constructor
    · intro h; omega
    · intro h; cases h
  · rename_i hd; simp [hd]

/-- All of it is code points. -/
def uval (l : List UInt8) : Bool :=
  if _h : l = [] then true else (udec l).isSome && uval (l.drop (unn l))
termination_by l.length
decreasing_by have := unn_pos _h; simp only [List.length_drop]; omega
def ucnt (l : List UInt8) : Nat :=
  if _h : l = [] then 0 else 1 + ucnt (l.drop (unn l))
termination_by l.length
decreasing_by have := unn_pos _h; simp only [List.length_drop]; omega
/-- The bytes of the first k. -/
def ucut : List UInt8 → Nat → Nat
  | _, 0 => 0
  | l, k + 1 => if l = [] then 0 else unn l + ucut (l.drop (unn l)) k
theorem uval_nil : uval [] = true := by rw [uval]; simp
theorem ucnt_nil : ucnt [] = 0 := by rw [ucnt]; simp
theorem uval_cons {l : List UInt8} (h : l ≠ []) : uval l = ((udec l).isSome && uval (l.drop (unn l))) := by rw [uval]; simp [h]
theorem ucnt_cons {l : List UInt8} (h : l ≠ []) : ucnt l = 1 + ucnt (l.drop (unn l)) := by rw [ucnt]; simp [h]
theorem ucut_nil (k : Nat) : ucut [] k = 0 := by cases k <;> simp [ucut]
theorem ucut_le : ∀ (k : Nat) (l : List UInt8), ucut l k ≤ l.length
  | 0, _ => by simp [ucut]
  | k + 1, l => by
    unfold ucut
    split
    · omega
    · rename_i h
      have := unn_pos h
      have := ucut_le k (l.drop (unn l))
      simp only [List.length_drop] at this
      omega
theorem ucnt_le : ∀ (n : Nat) (l : List UInt8), l.length ≤ n → ucnt l ≤ l.length
  | n, [], _ => by simp [ucnt_nil]
  | 0, b :: r, h => by simp at h
  | n + 1, b :: r, h => by
    have hne : b :: r ≠ [] := by simp
    rw [ucnt_cons hne]
    have := unn_pos hne
    have := ucnt_le n ((b :: r).drop (unn (b :: r))) (by simp only [List.length_drop]; omega)
    simp only [List.length_drop] at this
    omega
theorem unn_some {l : List UInt8} {c n : Nat} (h : udec l = some (c, n)) : unn l = n := by
  unfold unn
  rw [if_neg (by rintro rfl; simp [udec] at h), h]
theorem unc_some {l : List UInt8} {c n : Nat} (h : udec l = some (c, n)) : unc l = c := by
  unfold unc
  rw [if_neg (by rintro rfl; simp [udec] at h), h]
/-- A valid text ahead of another. -/
theorem uval_both : ∀ (n : Nat) (l m : List UInt8), l.length ≤ n → uval l = true → uval (l ++ m) = uval m ∧ ucnt (l ++ m) = ucnt l + ucnt m ∧ ucut (l ++ m) (ucnt l) = l.length
  | _, [], m, _, _ => by simp [ucnt_nil, ucut]
  | 0, b :: r, _, h, _ => by simp at h
  | n + 1, b :: r, m, hn, h => by
    have hne : b :: r ≠ [] := by simp
    have hne' : b :: r ++ m ≠ [] := by simp
    rw [uval_cons hne, Bool.and_eq_true] at h
    obtain ⟨⟨c, k⟩, hd⟩ := Option.isSome_iff_exists.1 h.1
    have hk := udec_some hd
    have e1 := unn_some hd
    have e2 := unn_some (udec_more m hd)
    rw [e1] at h
    have ih := uval_both n ((b :: r).drop k) m (by simp only [List.length_drop]; omega) h.2
    have ed : (b :: r ++ m).drop k = (b :: r).drop k ++ m := List.drop_append_of_le_length (by omega)
    refine ⟨?_, ?_, ?_⟩
    · rw [uval_cons hne', e2, ed, ih.1, udec_more m hd]; simp
    · rw [ucnt_cons hne', ucnt_cons hne, e1, e2, ed, ih.2.1]; omega
    · rw [ucnt_cons hne, e1, Nat.add_comm 1]
      unfold ucut
      rw [if_neg hne', e2, ed, ih.2.2]
      simp only [List.length_drop]; omega
theorem uval_byte : ∀ (n : Nat) (l : List UInt8), l.length ≤ n → uval l = true → ∀ b ∈ l, b.toNat < 248
  | _, [], _, _, b, hb => by simp at hb
  | 0, b :: r, h, _, _, _ => by simp at h
  | n + 1, b :: r, hn, h, x, hx => by
    have hne : b :: r ≠ [] := by simp
    rw [uval_cons hne, Bool.and_eq_true] at h
    obtain ⟨⟨c, k⟩, hd⟩ := Option.isSome_iff_exists.1 h.1
    have hk := udec_some hd
    rw [unn_some hd] at h
    have ih := uval_byte n ((b :: r).drop k) (by simp only [List.length_drop]; omega) h.2
    rw [← List.take_append_drop k (b :: r), List.mem_append] at hx
    rcases hx with hx | hx
    · obtain ⟨k', rfl⟩ : ∃ k', k = k' + 1 := ⟨k - 1, by omega⟩
      rw [List.take_succ_cons, List.mem_cons] at hx
      simp only [udec] at hd
      split at hd
      · cases hd
      · rename_i hz
        split at hd
        · cases hd
        · rename_i d hd'
          split at hd
          · have hs : k' = usz b.toNat - 1 := by
              have := congrArg (fun o : Option (Nat × Nat) => o.map (·.2)) hd
              simp only [Option.map_some, Option.some.injEq] at this
              omega
            rcases hx with rfl | hx
            · unfold usz at hz; (repeat' split at hz) <;> omega
            · clear ih hz h hk
              subst hs
              revert hx
              generalize uown b.toNat = o at hd'
              generalize usz b.toNat - 1 = k at hd'
              clear hne hn
              induction k generalizing o r with
              | zero => simp
              | succ k ih =>
                cases r with
                | nil => simp
                | cons y r =>
                  simp only [uacc] at hd'
                  split at hd'
                  · rename_i hc
                    rw [List.take_succ_cons, List.mem_cons]
                    rintro (rfl | hx)
                    · unfold ucon at hc; have := of_decide_eq_true hc; omega
                    · exact ih r _ hd' hx
                  · cases hd'
          · cases hd
    · exact ih x hx

/-- A code point's bytes. -/
def uenc (c : Nat) : List UInt8 :=
  if c < 128 then [UInt8.ofNat c] else if c < 2048 then [UInt8.ofNat (192 + c / 64), UInt8.ofNat (128 + c % 64)]
  else if c < 65536 then [UInt8.ofNat (224 + c / 4096), UInt8.ofNat (128 + c / 64 % 64), UInt8.ofNat (128 + c % 64)]
  else [UInt8.ofNat (240 + c / 262144), UInt8.ofNat (128 + c / 4096 % 64), UInt8.ofNat (128 + c / 64 % 64), UInt8.ofNat (128 + c % 64)]
theorem uenc_len {c : Nat} (h : ulng c ≠ 0) : (uenc c).length = ulng c := by
  unfold ulng at *
  unfold uenc
  split at h
  · omega
  · repeat' split
    all_goals first | rfl | omega
theorem ulng_le (c : Nat) : ulng c ≤ 4 := by unfold ulng; (repeat' split) <;> omega
theorem u8n {n : Nat} (h : n < 256) : (UInt8.ofNat n).toNat = n := by simp; omega
theorem ucon_yes {n : Nat} (h : n < 64) : ucon (128 + n) = true := by unfold ucon; exact decide_eq_true (by omega)
theorem udec_enc {c : Nat} (h : ulng c ≠ 0) (m : List UInt8) : udec (uenc c ++ m) = some (c, ulng c) := by
  have hq : ¬ (1114111 < c ∨ (55296 ≤ c ∧ c ≤ 57343)) := fun q => h (if_pos q)
  by_cases h1 : c < 128
  · have e : ulng c = 1 := by unfold ulng; rw [if_neg hq]; (repeat' split) <;> omega
    have s1 : usz c = 1 := by unfold usz; rw [if_pos h1]
    have o1 : uown c = c := by unfold uown; rw [if_pos h1]
    simp only [uenc, if_pos h1, List.cons_append, List.nil_append, udec, u8n (show c < 256 by omega), s1, o1]
    simp [uacc, e]
  by_cases h2 : c < 2048
  · have e : ulng c = 2 := by unfold ulng; rw [if_neg hq]; (repeat' split) <;> omega
    have s1 : usz (192 + c / 64) = 2 := by unfold usz; (repeat' split) <;> omega
    have o1 : uown (192 + c / 64) = c / 64 := by unfold uown; (repeat' split) <;> omega
    have a : c / 64 * 64 + (128 + c % 64 - 128) = c := by omega
    simp only [uenc, if_neg h1, if_pos h2, List.cons_append, List.nil_append, udec, u8n (show 192 + c / 64 < 256 by omega), u8n (show 128 + c % 64 < 256 by omega), s1, o1, uacc, ucon_yes (show c % 64 < 64 by omega), a]
    simp [e]
  by_cases h3 : c < 65536
  · have e : ulng c = 3 := by unfold ulng; rw [if_neg hq]; (repeat' split) <;> omega
    have s1 : usz (224 + c / 4096) = 3 := by unfold usz; (repeat' split) <;> omega
    have o1 : uown (224 + c / 4096) = c / 4096 := by unfold uown; (repeat' split) <;> omega
    have a : (c / 4096 * 64 + (128 + c / 64 % 64 - 128)) * 64 + (128 + c % 64 - 128) = c := by omega
    simp only [uenc, if_neg h1, if_neg h2, if_pos h3, List.cons_append, List.nil_append, udec, u8n (show 224 + c / 4096 < 256 by omega), u8n (show 128 + c / 64 % 64 < 256 by omega), u8n (show 128 + c % 64 < 256 by omega), s1, o1, uacc, ucon_yes (show c % 64 < 64 by omega), ucon_yes (show c / 64 % 64 < 64 by omega), a]
    simp [e]
  · have hc : c ≤ 1114111 := by unfold ulng at h; split at h <;> omega
    have e : ulng c = 4 := by unfold ulng; rw [if_neg hq]; (repeat' split) <;> omega
    have s1 : usz (240 + c / 262144) = 4 := by unfold usz; (repeat' split) <;> omega
    have o1 : uown (240 + c / 262144) = c / 262144 := by unfold uown; (repeat' split) <;> omega
    have a : ((c / 262144 * 64 + (128 + c / 4096 % 64 - 128)) * 64 + (128 + c / 64 % 64 - 128)) * 64 + (128 + c % 64 - 128) = c := by omega
    simp only [uenc, if_neg h1, if_neg h2, if_neg h3, List.cons_append, List.nil_append, udec, u8n (show 240 + c / 262144 < 256 by omega), u8n (show 128 + c / 4096 % 64 < 256 by omega), u8n (show 128 + c / 64 % 64 < 256 by omega), u8n (show 128 + c % 64 < 256 by omega), s1, o1, uacc, ucon_yes (show c % 64 < 64 by omega), ucon_yes (show c / 64 % 64 < 64 by omega), ucon_yes (show c / 4096 % 64 < 64 by omega), a]
    simp [e]
/-- Code points' bytes, one behind the other. -/
def uencs (cs : List Nat) : List UInt8 := cs.flatMap uenc
theorem uencs_nil : uencs [] = [] := rfl
theorem uencs_cons (c : Nat) (cs : List Nat) : uencs (c :: cs) = uenc c ++ uencs cs := rfl
theorem uencs_app (a b : List Nat) : uencs (a ++ b) = uencs a ++ uencs b := by simp [uencs]
theorem uencs_one (c : Nat) : uencs [c] = uenc c := by simp [uencs]
theorem uval_enc {c : Nat} (h : ulng c ≠ 0) : uval (uenc c) = true ∧ ucnt (uenc c) = 1 := by
  have hd := udec_enc h []
  rw [List.append_nil] at hd
  have hl := uenc_len h
  have hne : uenc c ≠ [] := by rintro e; rw [e] at hl; simp at hl; omega
  have e0 : (uenc c).drop (ulng c) = [] := List.drop_of_length_le (by omega)
  rw [uval_cons hne, ucnt_cons hne, unn_some hd, e0, hd, uval_nil, ucnt_nil]
  simp
theorem uval_encs : ∀ (cs : List Nat), (∀ c ∈ cs, ulng c ≠ 0) → uval (uencs cs) = true ∧ ucnt (uencs cs) = cs.length
  | [], _ => ⟨uval_nil, ucnt_nil⟩
  | c :: cs, h => by
    have a := uval_enc (h c (by simp))
    have b := uval_both _ (uenc c) (uencs cs) (Nat.le_refl _) a.1
    have ih := uval_encs cs (fun x hx => h x (by simp [hx]))
    rw [uencs_cons, b.1, b.2.1, ih.1, ih.2, a.2]
    exact ⟨rfl, by simp only [List.length_cons]; omega⟩
theorem ucut_encs : ∀ (cs : List Nat) (k : Nat), (∀ c ∈ cs, ulng c ≠ 0) → ucut (uencs cs) k = (uencs (cs.take k)).length
  | [], k, _ => by simp [uencs_nil, ucut_nil]
  | c :: cs, 0, _ => by simp [ucut, uencs_nil]
  | c :: cs, k + 1, h => by
    have hc := h c (by simp)
    have hd := udec_enc hc (uencs cs)
    have hl := uenc_len hc
    have hne : uenc c ++ uencs cs ≠ [] := by intro e; rw [e] at hd; simp [udec] at hd
    rw [uencs_cons, List.take_succ_cons, uencs_cons]
    unfold ucut
    rw [if_neg hne, unn_some hd, ← hl, List.drop_left, ucut_encs cs k (fun x hx => h x (by simp [hx])), List.length_append]
/-- A last byte cut off. -/
theorem udec_short {c : Nat} (h : 2 ≤ ulng c) : uval (uenc c).dropLast = false := by
  have hl := uenc_len (c := c) (by omega)
  have hne : (uenc c).dropLast ≠ [] := by intro e; have := congrArg List.length e; simp at this; omega
  rw [uval_cons hne]
  have : udec (uenc c).dropLast = none := by
    cases hd : udec (uenc c).dropLast with
    | none => rfl
    | some p =>
      obtain ⟨d, n⟩ := p
      have h1 := udec_some hd
      have h2 := udec_more [(uenc c).getLast (by intro e; rw [e] at hl; simp at hl; omega)] hd
      rw [List.dropLast_concat_getLast] at h2
      have h3 := udec_enc (c := c) (by omega) []
      rw [List.append_nil, h2] at h3
      have h4 : n = ulng c := by injection h3 with h3; injection h3
      have h5 := h1.2.2.1
      rw [List.length_dropLast] at h5
      omega
  rw [this]; rfl
end Go.Proofs.Ytoibaeilbolffaa
