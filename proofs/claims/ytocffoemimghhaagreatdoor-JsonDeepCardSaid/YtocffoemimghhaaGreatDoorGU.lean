/-
  UtfMath UtfA UtfNext UtfRef UtfClone UtfMid, one behind the other: a claim holds at most 60 files.
-/
import Derived.Test.YtocffoemimghhaaGreatDoorRows
import Derived.WalkKit
import Derived.WalkSpells
import Derived.WalkLawsBesides
import Derived.Lib.Hide
import Derived.LoopTactic
import Derived.Laws.Runes
import Derived.Laws.BitsAllLaws
import Derived.Deep.QuietTactic
import Derived.BigQuiet
import Derived.Lib.BufferWrite
import Derived.Lib.UnsafeStr
import Derived.Laws.MakeOwn
import Derived.Deep.RegionHeld3
section
namespace Go.Proofs.YtocffoemimghhaaGreatDoor
/-- A first byte's size. -/
def usz (b : Nat) : Nat := if b < 128 then 1 else if b < 192 then 0 else if b < 224 then 2 else if b < 240 then 3 else if b < 248 then 4 else 0
/-- A first byte's uown bits. -/
def uown (b : Nat) : Nat := if b < 128 then b else if b < 192 then 0 else if b < 224 then b - 192 else if b < 240 then b - 224 else if b < 248 then b - 240 else 0
def ucon (b : Nat) : Bool := decide (128 ≤ b ∧ b < 192)
/-- A code point's size; 0 of what is none. -/
def ulng (c : Nat) : Nat := if 1114111 < c ∨ (55296 ≤ c ∧ c ≤ 57343) then 0 else if c < 128 then 1 else if c < 2048 then 2 else if c < 65536 then 3 else 4
def uacc : Nat → Nat → List UInt8 → Option Nat
  | c, 0, _ => some c
  | _, _ + 1, [] => none
  | c, k + 1, b :: r => if ucon b.toNat then uacc (c * 64 + (b.toNat - 128)) k r else none
def udec : List UInt8 → Option (Nat × Nat)
  | [] => none
  | b :: r => if usz b.toNat = 0 then none else
    match uacc (uown b.toNat) (usz b.toNat - 1) r with
    | none => none
    | some c => if ulng c = usz b.toNat then some (c, usz b.toNat) else none
def unc (l : List UInt8) : Int := if l = [] then 0 else match udec l with | some (c, _) => c | none => -1
def unn (l : List UInt8) : Nat := if l = [] then 0 else match udec l with | some (_, n) => n | none => 1

theorem usz_le (b : Nat) : usz b ≤ 4 := by unfold usz; (repeat' split) <;> omega
theorem uacc_len : ∀ (k c : Nat) (l : List UInt8) (d : Nat), uacc c k l = some d → k ≤ l.length
  | 0, _, _, _, _ => Nat.zero_le _
  | _ + 1, _, [], _, h => by simp [uacc] at h
  | k + 1, c, b :: r, d, h => by
    simp only [uacc] at h
    split at h
    · have := uacc_len k _ r d h; simp; omega
    · cases h
theorem uacc_more : ∀ (k c : Nat) (l m : List UInt8) (d : Nat), uacc c k l = some d → uacc c k (l ++ m) = some d
  | 0, _, _, _, _, h => by simpa [uacc] using h
  | _ + 1, _, [], _, _, h => by simp [uacc] at h
  | k + 1, c, b :: r, m, d, h => by
    simp only [uacc, List.cons_append] at h ⊢
    split at h
    · rename_i hc; rw [if_pos hc]; exact uacc_more k _ r m d h
    · cases h
theorem udec_some {l : List UInt8} {c n : Nat} (h : udec l = some (c, n)) : 1 ≤ n ∧ n ≤ 4 ∧ n ≤ l.length ∧ ulng c = n := by
  cases l with
  | nil => simp [udec] at h
  | cons b r =>
    simp only [udec] at h
    split at h
    · cases h
    · rename_i hz
      split at h
      · cases h
      · rename_i d hd
        split at h
        · rename_i hl
          cases h
          have := uacc_len _ _ _ _ hd
          have := usz_le b.toNat
          simp only [List.length_cons]
          omega
        · cases h
theorem udec_more {l : List UInt8} (m : List UInt8) {c n : Nat} (h : udec l = some (c, n)) : udec (l ++ m) = some (c, n) := by
  cases l with
  | nil => simp [udec] at h
  | cons b r =>
    simp only [udec, List.cons_append] at h ⊢
    split at h
    · cases h
    · rename_i hz
      rw [if_neg hz]
      split at h
      · cases h
      · rename_i d hd
        rw [uacc_more _ _ _ m _ hd]
        exact h
theorem unn_pos {l : List UInt8} (h : l ≠ []) : 1 ≤ unn l ∧ unn l ≤ 4 ∧ unn l ≤ l.length := by
  unfold unn
  rw [if_neg h]
  have hl : 1 ≤ l.length := by cases l with | nil => exact absurd rfl h | cons => simp
  split
  · rename_i c n hd; have := udec_some hd; omega
  · omega
theorem unc_lo (l : List UInt8) : -1 ≤ unc l := by
  unfold unc; split
  · omega
  · split <;> omega
theorem unc_none {l : List UInt8} (h : l ≠ []) : unc l = -1 ↔ udec l = none := by
  unfold unc; rw [if_neg h]
  split
  · rename_i c n hd; rw [hd]; constructor
    · intro h; omega
    · intro h; cases h
  · rename_i hd; simp [hd]

/-- All of it is code points. -/
def uval (l : List UInt8) : Bool :=
  if _h : l = [] then true else (udec l).isSome && uval (l.drop (unn l))
termination_by l.length
decreasing_by have := unn_pos _h; simp only [List.length_drop]; omega
def ucnt (l : List UInt8) : Nat :=
  if _h : l = [] then 0 else 1 + ucnt (l.drop (unn l))
termination_by l.length
decreasing_by have := unn_pos _h; simp only [List.length_drop]; omega
/-- The bytes of the first k. -/
def ucut : List UInt8 → Nat → Nat
  | _, 0 => 0
  | l, k + 1 => if l = [] then 0 else unn l + ucut (l.drop (unn l)) k
theorem uval_nil : uval [] = true := by rw [uval]; simp
theorem ucnt_nil : ucnt [] = 0 := by rw [ucnt]; simp
theorem uval_cons {l : List UInt8} (h : l ≠ []) : uval l = ((udec l).isSome && uval (l.drop (unn l))) := by rw [uval]; simp [h]
theorem ucnt_cons {l : List UInt8} (h : l ≠ []) : ucnt l = 1 + ucnt (l.drop (unn l)) := by rw [ucnt]; simp [h]
theorem ucut_nil (k : Nat) : ucut [] k = 0 := by cases k <;> simp [ucut]
theorem ucut_le : ∀ (k : Nat) (l : List UInt8), ucut l k ≤ l.length
  | 0, _ => by simp [ucut]
  | k + 1, l => by
    unfold ucut
    split
    · omega
    · rename_i h
      have := unn_pos h
      have := ucut_le k (l.drop (unn l))
      simp only [List.length_drop] at this
      omega
theorem ucnt_le : ∀ (n : Nat) (l : List UInt8), l.length ≤ n → ucnt l ≤ l.length
  | n, [], _ => by simp [ucnt_nil]
  | 0, b :: r, h => by simp at h
  | n + 1, b :: r, h => by
    have hne : b :: r ≠ [] := by simp
    rw [ucnt_cons hne]
    have := unn_pos hne
    have := ucnt_le n ((b :: r).drop (unn (b :: r))) (by simp only [List.length_drop]; omega)
    simp only [List.length_drop] at this
    omega
theorem unn_some {l : List UInt8} {c n : Nat} (h : udec l = some (c, n)) : unn l = n := by
  unfold unn
  rw [if_neg (by rintro rfl; simp [udec] at h), h]
theorem unc_some {l : List UInt8} {c n : Nat} (h : udec l = some (c, n)) : unc l = c := by
  unfold unc
  rw [if_neg (by rintro rfl; simp [udec] at h), h]
/-- A valid text ahead of another. -/
theorem uval_both : ∀ (n : Nat) (l m : List UInt8), l.length ≤ n → uval l = true → uval (l ++ m) = uval m ∧ ucnt (l ++ m) = ucnt l + ucnt m ∧ ucut (l ++ m) (ucnt l) = l.length
  | _, [], m, _, _ => by simp [ucnt_nil, ucut]
  | 0, b :: r, _, h, _ => by simp at h
  | n + 1, b :: r, m, hn, h => by
    have hne : b :: r ≠ [] := by simp
    have hne' : b :: r ++ m ≠ [] := by simp
    rw [uval_cons hne, Bool.and_eq_true] at h
    obtain ⟨⟨c, k⟩, hd⟩ := Option.isSome_iff_exists.1 h.1
    have hk := udec_some hd
    have e1 := unn_some hd
    have e2 := unn_some (udec_more m hd)
    rw [e1] at h
    have ih := uval_both n ((b :: r).drop k) m (by simp only [List.length_drop]; omega) h.2
    have ed : (b :: r ++ m).drop k = (b :: r).drop k ++ m := List.drop_append_of_le_length (by omega)
    refine ⟨?_, ?_, ?_⟩
    · rw [uval_cons hne', e2, ed, ih.1, udec_more m hd]; simp
    · rw [ucnt_cons hne', ucnt_cons hne, e1, e2, ed, ih.2.1]; omega
    · rw [ucnt_cons hne, e1, Nat.add_comm 1]
      unfold ucut
      rw [if_neg hne', e2, ed, ih.2.2]
      simp only [List.length_drop]; omega
theorem uval_byte : ∀ (n : Nat) (l : List UInt8), l.length ≤ n → uval l = true → ∀ b ∈ l, b.toNat < 248
  | _, [], _, _, b, hb => by simp at hb
  | 0, b :: r, h, _, _, _ => by simp at h
  | n + 1, b :: r, hn, h, x, hx => by
    have hne : b :: r ≠ [] := by simp
    rw [uval_cons hne, Bool.and_eq_true] at h
    obtain ⟨⟨c, k⟩, hd⟩ := Option.isSome_iff_exists.1 h.1
    have hk := udec_some hd
    rw [unn_some hd] at h
    have ih := uval_byte n ((b :: r).drop k) (by simp only [List.length_drop]; omega) h.2
    rw [← List.take_append_drop k (b :: r), List.mem_append] at hx
    rcases hx with hx | hx
    · obtain ⟨k', rfl⟩ : ∃ k', k = k' + 1 := ⟨k - 1, by omega⟩
      rw [List.take_succ_cons, List.mem_cons] at hx
      simp only [udec] at hd
      split at hd
      · cases hd
      · rename_i hz
        split at hd
        · cases hd
        · rename_i d hd'
          split at hd
          · have hs : k' = usz b.toNat - 1 := by
              have := congrArg (fun o : Option (Nat × Nat) => o.map (·.2)) hd
              simp only [Option.map_some, Option.some.injEq] at this
              omega
            rcases hx with rfl | hx
            · unfold usz at hz; (repeat' split at hz) <;> omega
            · clear ih hz h hk
              subst hs
              revert hx
              generalize uown b.toNat = o at hd'
              generalize usz b.toNat - 1 = k at hd'
              clear hne hn
              induction k generalizing o r with
              | zero => simp
              | succ k ih =>
                cases r with
                | nil => simp
                | cons y r =>
                  simp only [uacc] at hd'
                  split at hd'
                  · rename_i hc
                    rw [List.take_succ_cons, List.mem_cons]
                    rintro (rfl | hx)
                    · unfold ucon at hc; have := of_decide_eq_true hc; omega
                    · exact ih r _ hd' hx
                  · cases hd'
          · cases hd
    · exact ih x hx

/-- A code point's bytes. -/
def uenc (c : Nat) : List UInt8 :=
  if c < 128 then [UInt8.ofNat c] else if c < 2048 then [UInt8.ofNat (192 + c / 64), UInt8.ofNat (128 + c % 64)]
  else if c < 65536 then [UInt8.ofNat (224 + c / 4096), UInt8.ofNat (128 + c / 64 % 64), UInt8.ofNat (128 + c % 64)]
  else [UInt8.ofNat (240 + c / 262144), UInt8.ofNat (128 + c / 4096 % 64), UInt8.ofNat (128 + c / 64 % 64), UInt8.ofNat (128 + c % 64)]
theorem uenc_len {c : Nat} (h : ulng c ≠ 0) : (uenc c).length = ulng c := by
  unfold ulng at *
  unfold uenc
  split at h
  · omega
  · repeat' split
    all_goals first | rfl | omega
theorem ulng_le (c : Nat) : ulng c ≤ 4 := by unfold ulng; (repeat' split) <;> omega
theorem u8n {n : Nat} (h : n < 256) : (UInt8.ofNat n).toNat = n := by simp; omega
theorem ucon_yes {n : Nat} (h : n < 64) : ucon (128 + n) = true := by unfold ucon; exact decide_eq_true (by omega)
theorem udec_enc {c : Nat} (h : ulng c ≠ 0) (m : List UInt8) : udec (uenc c ++ m) = some (c, ulng c) := by
  have hq : ¬ (1114111 < c ∨ (55296 ≤ c ∧ c ≤ 57343)) := fun q => h (if_pos q)
  by_cases h1 : c < 128
  · have e : ulng c = 1 := by unfold ulng; rw [if_neg hq]; (repeat' split) <;> omega
    have s1 : usz c = 1 := by unfold usz; rw [if_pos h1]
    have o1 : uown c = c := by unfold uown; rw [if_pos h1]
    simp only [uenc, if_pos h1, List.cons_append, List.nil_append, udec, u8n (show c < 256 by omega), s1, o1]
    simp [uacc, e]
  by_cases h2 : c < 2048
  · have e : ulng c = 2 := by unfold ulng; rw [if_neg hq]; (repeat' split) <;> omega
    have s1 : usz (192 + c / 64) = 2 := by unfold usz; (repeat' split) <;> omega
    have o1 : uown (192 + c / 64) = c / 64 := by unfold uown; (repeat' split) <;> omega
    have a : c / 64 * 64 + (128 + c % 64 - 128) = c := by omega
    simp only [uenc, if_neg h1, if_pos h2, List.cons_append, List.nil_append, udec, u8n (show 192 + c / 64 < 256 by omega), u8n (show 128 + c % 64 < 256 by omega), s1, o1, uacc, ucon_yes (show c % 64 < 64 by omega), a]
    simp [e]
  by_cases h3 : c < 65536
  · have e : ulng c = 3 := by unfold ulng; rw [if_neg hq]; (repeat' split) <;> omega
    have s1 : usz (224 + c / 4096) = 3 := by unfold usz; (repeat' split) <;> omega
    have o1 : uown (224 + c / 4096) = c / 4096 := by unfold uown; (repeat' split) <;> omega
    have a : (c / 4096 * 64 + (128 + c / 64 % 64 - 128)) * 64 + (128 + c % 64 - 128) = c := by omega
    simp only [uenc, if_neg h1, if_neg h2, if_pos h3, List.cons_append, List.nil_append, udec, u8n (show 224 + c / 4096 < 256 by omega), u8n (show 128 + c / 64 % 64 < 256 by omega), u8n (show 128 + c % 64 < 256 by omega), s1, o1, uacc, ucon_yes (show c % 64 < 64 by omega), ucon_yes (show c / 64 % 64 < 64 by omega), a]
    simp [e]
  · have hc : c ≤ 1114111 := by unfold ulng at h; split at h <;> omega
    have e : ulng c = 4 := by unfold ulng; rw [if_neg hq]; (repeat' split) <;> omega
    have s1 : usz (240 + c / 262144) = 4 := by unfold usz; (repeat' split) <;> omega
    have o1 : uown (240 + c / 262144) = c / 262144 := by unfold uown; (repeat' split) <;> omega
    have a : ((c / 262144 * 64 + (128 + c / 4096 % 64 - 128)) * 64 + (128 + c / 64 % 64 - 128)) * 64 + (128 + c % 64 - 128) = c := by omega
    simp only [uenc, if_neg h1, if_neg h2, if_neg h3, List.cons_append, List.nil_append, udec, u8n (show 240 + c / 262144 < 256 by omega), u8n (show 128 + c / 4096 % 64 < 256 by omega), u8n (show 128 + c / 64 % 64 < 256 by omega), u8n (show 128 + c % 64 < 256 by omega), s1, o1, uacc, ucon_yes (show c % 64 < 64 by omega), ucon_yes (show c / 64 % 64 < 64 by omega), ucon_yes (show c / 4096 % 64 < 64 by omega), a]
    simp [e]
/-- Code points' bytes, one behind the other. -/
def uencs (cs : List Nat) : List UInt8 := cs.flatMap uenc
theorem uencs_nil : uencs [] = [] := rfl
theorem uencs_cons (c : Nat) (cs : List Nat) : uencs (c :: cs) = uenc c ++ uencs cs := rfl
theorem uencs_app (a b : List Nat) : uencs (a ++ b) = uencs a ++ uencs b := by simp [uencs]
theorem uencs_one (c : Nat) : uencs [c] = uenc c := by simp [uencs]
theorem uval_enc {c : Nat} (h : ulng c ≠ 0) : uval (uenc c) = true ∧ ucnt (uenc c) = 1 := by
  have hd := udec_enc h []
  rw [List.append_nil] at hd
  have hl := uenc_len h
  have hne : uenc c ≠ [] := by rintro e; rw [e] at hl; simp at hl; omega
  have e0 : (uenc c).drop (ulng c) = [] := List.drop_of_length_le (by omega)
  rw [uval_cons hne, ucnt_cons hne, unn_some hd, e0, hd, uval_nil, ucnt_nil]
  simp
theorem uval_encs : ∀ (cs : List Nat), (∀ c ∈ cs, ulng c ≠ 0) → uval (uencs cs) = true ∧ ucnt (uencs cs) = cs.length
  | [], _ => ⟨uval_nil, ucnt_nil⟩
  | c :: cs, h => by
    have a := uval_enc (h c (by simp))
    have b := uval_both _ (uenc c) (uencs cs) (Nat.le_refl _) a.1
    have ih := uval_encs cs (fun x hx => h x (by simp [hx]))
    rw [uencs_cons, b.1, b.2.1, ih.1, ih.2, a.2]
    exact ⟨rfl, by simp only [List.length_cons]; omega⟩
theorem ucut_encs : ∀ (cs : List Nat) (k : Nat), (∀ c ∈ cs, ulng c ≠ 0) → ucut (uencs cs) k = (uencs (cs.take k)).length
  | [], k, _ => by simp [uencs_nil, ucut_nil]
  | c :: cs, 0, _ => by simp [ucut, uencs_nil]
  | c :: cs, k + 1, h => by
    have hc := h c (by simp)
    have hd := udec_enc hc (uencs cs)
    have hl := uenc_len hc
    have hne : uenc c ++ uencs cs ≠ [] := by intro e; rw [e] at hd; simp [udec] at hd
    rw [uencs_cons, List.take_succ_cons, uencs_cons]
    unfold ucut
    rw [if_neg hne, unn_some hd, ← hl, List.drop_left, ucut_encs cs k (fun x hx => h x (by simp [hx])), List.length_append]
/-- A last byte cut off. -/
theorem udec_short {c : Nat} (h : 2 ≤ ulng c) : uval (uenc c).dropLast = false := by
  have hl := uenc_len (c := c) (by omega)
  have hne : (uenc c).dropLast ≠ [] := by intro e; have := congrArg List.length e; simp at this; omega
  rw [uval_cons hne]
  have : udec (uenc c).dropLast = none := by
    cases hd : udec (uenc c).dropLast with
    | none => rfl
    | some p =>
      obtain ⟨d, n⟩ := p
      have h1 := udec_some hd
      have h2 := udec_more [(uenc c).getLast (by intro e; rw [e] at hl; simp at hl; omega)] hd
      rw [List.dropLast_concat_getLast] at h2
      have h3 := udec_enc (c := c) (by omega) []
      rw [List.append_nil, h2] at h3
      have h4 : n = ulng c := by injection h3 with h3; injection h3
      have h5 := h1.2.2.1
      rw [List.length_dropLast] at h5
      omega
  rw [this]; rfl
end Go.Proofs.YtocffoemimghhaaGreatDoor
end
section
namespace Go.Proofs.YtocffoemimghhaaGreatDoor
open Go.RowKit

/-- A code point's size, of any integer. -/
def zlng (c : Int) : Nat := if c < 0 then 0 else ulng c.toNat
theorem zlng_nat (c : Nat) : zlng (c : Int) = ulng c := by unfold zlng; rw [if_neg (by omega), Int.toNat_natCast]
theorem length_none (c : Int) (h : c < 0 ∨ 1114111 < c) (w : World) :
    Calls Tryz.prog 130 #[.int .i64 c] w fun e w' => e = .returned (.int .i64 0) ∧ w' = w := by
  rcases h with h | h
  · go_enter Tryz.func130, Tryz.ntmps130
    go_wp2
    go_ret
    exact ⟨rfl, rfl⟩
  · have h0 : 0 ≤ c := by omega
    go_enter Tryz.func130, Tryz.ntmps130
    go_wp2
    go_ret
    exact ⟨rfl, rfl⟩
theorem length_sur (c : Int) (h0 : 55296 ≤ c) (h1 : c ≤ 57343) (w : World) :
    Calls Tryz.prog 130 #[.int .i64 c] w fun e w' => e = .returned (.int .i64 0) ∧ w' = w := by
  go_enter Tryz.func130, Tryz.ntmps130
  go_wp2
  go_ret
  exact ⟨rfl, rfl⟩
theorem length_1 (c : Int) (h0 : 0 ≤ c) (h1 : c < 128) (w : World) :
    Calls Tryz.prog 130 #[.int .i64 c] w fun e w' => e = .returned (.int .i64 1) ∧ w' = w := by
  go_enter Tryz.func130, Tryz.ntmps130
  go_wp2
  go_ret
  exact ⟨rfl, rfl⟩
theorem length_2 (c : Int) (h0 : 128 ≤ c) (h1 : c < 2048) (w : World) :
    Calls Tryz.prog 130 #[.int .i64 c] w fun e w' => e = .returned (.int .i64 2) ∧ w' = w := by
  go_enter Tryz.func130, Tryz.ntmps130
  go_wp2
  go_ret
  exact ⟨rfl, rfl⟩
theorem length_3 (c : Int) (h0 : 2048 ≤ c) (h1 : c < 65536) (h2 : c < 55296 ∨ 57343 < c) (w : World) :
    Calls Tryz.prog 130 #[.int .i64 c] w fun e w' => e = .returned (.int .i64 3) ∧ w' = w := by
  rcases h2 with h2 | h2
  · go_enter Tryz.func130, Tryz.ntmps130
    go_wp2
    go_ret
    exact ⟨rfl, rfl⟩
  · go_enter Tryz.func130, Tryz.ntmps130
    go_wp2
    go_ret
    exact ⟨rfl, rfl⟩
theorem length_4 (c : Int) (h0 : 65536 ≤ c) (h1 : c ≤ 1114111) (w : World) :
    Calls Tryz.prog 130 #[.int .i64 c] w fun e w' => e = .returned (.int .i64 4) ∧ w' = w := by
  go_enter Tryz.func130, Tryz.ntmps130
  go_wp2
  go_ret
  exact ⟨rfl, rfl⟩
theorem zlng_cases (c : Int) : (zlng c = 0 ∧ (c < 0 ∨ 1114111 < c)) ∨ (zlng c = 0 ∧ 55296 ≤ c ∧ c ≤ 57343) ∨ (zlng c = 1 ∧ 0 ≤ c ∧ c < 128) ∨ (zlng c = 2 ∧ 128 ≤ c ∧ c < 2048) ∨ (zlng c = 3 ∧ 2048 ≤ c ∧ c < 65536 ∧ (c < 55296 ∨ 57343 < c)) ∨ (zlng c = 4 ∧ 65536 ≤ c ∧ c ≤ 1114111) := by
  unfold zlng ulng
  split
  · omega
  · split
    · omega
    · split
      · omega
      · split
        · omega
        · split <;> omega
theorem length_any (c : Int) (w : World) :
    Calls Tryz.prog 130 #[.int .i64 c] w fun e w' => e = .returned (.int .i64 (zlng c : Nat)) ∧ w' = w := by
  rcases zlng_cases c with ⟨e, h⟩ | ⟨e, h0, h1⟩ | ⟨e, h0, h1⟩ | ⟨e, h0, h1⟩ | ⟨e, h0, h1, h2⟩ | ⟨e, h0, h1⟩ <;> rw [e]
  · exact length_none c h w
  · exact length_sur c h0 h1 w
  · exact length_1 c h0 h1 w
  · exact length_2 c h0 h1 w
  · exact length_3 c h0 h1 h2 w
  · exact length_4 c h0 h1 w
theorem point_yes (c : Int) (h0 : 0 ≤ c) (h1 : c ≤ 1114111) (h2 : c < 55296 ∨ 57343 < c) (w : World) :
    Calls Tryz.prog 176 #[.int .i64 c] w fun e w' => e = .returned (.bool true) ∧ w' = w := by
  rcases h2 with h2 | h2
  · go_enter Tryz.func176, Tryz.ntmps176
    go_wp2
    go_ret
    exact ⟨rfl, rfl⟩
  · go_enter Tryz.func176, Tryz.ntmps176
    go_wp2
    go_ret
    exact ⟨rfl, rfl⟩
theorem point_no (c : Int) (h : c < 0 ∨ 1114111 < c ∨ (55296 ≤ c ∧ c ≤ 57343)) (w : World) :
    Calls Tryz.prog 176 #[.int .i64 c] w fun e w' => e = .returned (.bool false) ∧ w' = w := by
  rcases h with h | h | ⟨h, h2⟩
  · go_enter Tryz.func176, Tryz.ntmps176
    go_wp2
    go_ret
    exact ⟨rfl, rfl⟩
  · have h0 : 0 ≤ c := by omega
    go_enter Tryz.func176, Tryz.ntmps176
    go_wp2
    go_ret
    exact ⟨rfl, rfl⟩
  · have d1 : decide (c < 55296) = false := decide_eq_false (by omega)
    have d2 : decide (57343 < c) = false := decide_eq_false (by omega)
    go_enter Tryz.func176, Tryz.ntmps176
    go_wp2
    go_ret
    exact ⟨rfl, rfl⟩
theorem point_any (c : Int) (w : World) :
    Calls Tryz.prog 176 #[.int .i64 c] w fun e w' => e = .returned (.bool (decide (zlng c ≠ 0))) ∧ w' = w := by
  rcases zlng_cases c with ⟨e, h⟩ | ⟨e, h0, h1⟩ | ⟨e, h0, h1⟩ | ⟨e, h0, h1⟩ | ⟨e, h0, h1, h2⟩ | ⟨e, h0, h1⟩ <;> rw [e]
  · exact point_no c (by omega) w
  · exact point_no c (by omega) w
  · exact point_yes c (by omega) (by omega) (by omega) w
  · exact point_yes c (by omega) (by omega) (by omega) w
  · exact point_yes c (by omega) (by omega) (by omega) w
  · exact point_yes c (by omega) (by omega) (by omega) w

theorem and_u8 {b m : Nat} (hb : b < 256) (hm : m < 256) : bits .and .u8 (b : Int) (m : Int) = ((b &&& m : Nat) : Int) := u8_and_nat b m hb hm
theorem begun_1 (b : Nat) (h : b < 128) (w : World) :
    Calls Tryz.prog 128 #[.int .u8 (b : Int)] w fun e w' => e = .returned (.tuple #[.int .i32 (b : Int), .int .i64 1]) ∧ w' = w := by
  have w1 : IntKind.i32.wrap (b : Int) = b := by simp [IntKind.wrap, IntKind.bits, IntKind.signed]; omega
  go_enter Tryz.func128, Tryz.ntmps128
  go_wp2
  go_ret2
  exact ⟨rfl, rfl⟩
theorem begun_no (b : Nat) (h : (128 ≤ b ∧ b < 192) ∨ (248 ≤ b ∧ b < 256)) (w : World) :
    Calls Tryz.prog 128 #[.int .u8 (b : Int)] w fun e w' => e = .returned (.tuple #[.int .i32 0, .int .i64 0]) ∧ w' = w := by
  rcases h with ⟨h, h2⟩ | ⟨h, h2⟩
  · go_enter Tryz.func128, Tryz.ntmps128
    go_wp2
    go_ret2
    exact ⟨rfl, rfl⟩
  · go_enter Tryz.func128, Tryz.ntmps128
    go_wp2
    go_ret2
    exact ⟨rfl, rfl⟩
theorem begun_more (b c m : Nat) (n : Int) (h : (192 ≤ b ∧ b < 224 ∧ n = 2 ∧ m = 31) ∨ (224 ≤ b ∧ b < 240 ∧ n = 3 ∧ m = 15) ∨ (240 ≤ b ∧ b < 248 ∧ n = 4 ∧ m = 7)) (hc : bits .and .u8 (b : Int) (m : Int) = (c : Int)) (hc2 : c < 256) (w : World) :
    Calls Tryz.prog 128 #[.int .u8 (b : Int)] w fun e w' => e = .returned (.tuple #[.int .i32 (c : Int), .int .i64 n]) ∧ w' = w := by
  have w1 : IntKind.i32.wrap (c : Int) = c := by simp [IntKind.wrap, IntKind.bits, IntKind.signed]; omega
  rcases h with ⟨h1, h2, rfl, rfl⟩ | ⟨h1, h2, rfl, rfl⟩ | ⟨h1, h2, rfl, rfl⟩
  · have hc' : bits .and .u8 (b : Int) 31 = (c : Int) := hc
    clear hc
    go_enter Tryz.func128, Tryz.ntmps128
    go_wp2
    go_ret2
    exact ⟨rfl, rfl⟩
  · have hc' : bits .and .u8 (b : Int) 15 = (c : Int) := hc
    clear hc
    go_enter Tryz.func128, Tryz.ntmps128
    go_wp2
    go_ret2
    exact ⟨rfl, rfl⟩
  · have hc' : bits .and .u8 (b : Int) 7 = (c : Int) := hc
    clear hc
    go_enter Tryz.func128, Tryz.ntmps128
    go_wp2
    go_ret2
    exact ⟨rfl, rfl⟩
theorem begun_any (b : Nat) (hb : b < 256) (w : World) :
    Calls Tryz.prog 128 #[.int .u8 (b : Int)] w fun e w' => e = .returned (.tuple #[.int .i32 (uown b : Nat), .int .i64 (usz b : Nat)]) ∧ w' = w := by
  unfold uown usz
  by_cases h1 : b < 128
  · rw [if_pos h1, if_pos h1]; exact begun_1 b h1 w
  by_cases h2 : b < 192
  · rw [if_neg h1, if_neg h1, if_pos h2, if_pos h2]; exact begun_no b (by omega) w
  by_cases h3 : b < 224
  · rw [if_neg h1, if_neg h1, if_neg h2, if_neg h2, if_pos h3, if_pos h3]
    exact begun_more b _ 31 2 (by omega) (by rw [and_u8 hb (by decide), nat_mask5]; omega) (by omega) w
  by_cases h4 : b < 240
  · rw [if_neg h1, if_neg h1, if_neg h2, if_neg h2, if_neg h3, if_neg h3, if_pos h4, if_pos h4]
    exact begun_more b _ 15 3 (by omega) (by rw [and_u8 hb (by decide), nat_mask4]; omega) (by omega) w
  by_cases h5 : b < 248
  · rw [if_neg h1, if_neg h1, if_neg h2, if_neg h2, if_neg h3, if_neg h3, if_neg h4, if_neg h4, if_pos h5, if_pos h5]
    exact begun_more b _ 7 4 (by omega) (by rw [and_u8 hb (by decide), nat_mask3]; omega) (by omega) w
  · rw [if_neg h1, if_neg h1, if_neg h2, if_neg h2, if_neg h3, if_neg h3, if_neg h4, if_neg h4, if_neg h5, if_neg h5]
    exact begun_no b (by omega) w
theorem gone_any (b : Nat) (hb : b < 256) (w : World) :
    Calls Tryz.prog 129 #[.int .u8 (b : Int)] w fun e w' => e = .returned (.tuple #[.int .i32 ((b % 64 : Nat) : Int), .bool (ucon b)]) ∧ w' = w := by
  obtain ⟨c, hc⟩ : ∃ c, c = b % 64 := ⟨_, rfl⟩
  have h1 : bits .and .u8 (b : Int) 63 = (c : Int) := by
    have := and_u8 (m := 63) hb (by decide)
    rw [nat_mask6, ← hc] at this
    exact this
  rw [← hc]
  have w1 : IntKind.i32.wrap (c : Int) = c := by simp [IntKind.wrap, IntKind.bits, IntKind.signed]; omega
  have e : ucon b = ((b : Int) / 64 == 2) := by
    unfold ucon
    rw [Bool.eq_iff_iff, decide_eq_true_iff, beq_iff_eq]
    omega
  rw [e]
  clear e hc
  go_enter Tryz.func129, Tryz.ntmps129
  go_wp2
  go_ret2
  exact ⟨rfl, rfl⟩
end Go.Proofs.YtocffoemimghhaaGreatDoor
end
section
namespace Go.Proofs.YtocffoemimghhaaGreatDoor
open Go.RowKit

theorem i32_or_nat (a b : Nat) (ha : a < 1073741824) (hb : b < 1073741824) : bits .or .i32 (a : Int) (b : Int) = ((a ||| b : Nat) : Int) := by
  have hx : a ||| b < 2 ^ 30 := Nat.or_lt_two_pow (by omega) (by omega)
  show IntKind.i32.wrap ((BitVec.ofInt 32 (a : Int) ||| BitVec.ofInt 32 (b : Int)).toNat : Int) = _
  rw [BitVec.toNat_or, BitVec.ofInt_natCast, BitVec.ofInt_natCast, BitVec.toNat_ofNat, BitVec.toNat_ofNat, Nat.mod_eq_of_lt (show a < 2 ^ 32 by omega), Nat.mod_eq_of_lt (show b < 2 ^ 32 by omega)]
  simp [IntKind.wrap, IntKind.bits, IntKind.signed]
  omega
theorem join6 {m x : Nat} (hm : m < 524288) (hx : x < 64) : bits .or .i32 ((m : Int) * 64) (x : Int) = ((m * 64 + x : Nat) : Int) := by
  have h := i32_or_nat (m * 64) x (by omega) (by omega)
  rw [nat_join 6 (m * 64) x (by omega) (by omega)] at h
  rw [← h]
  congr 1

/-- How great what has been read can be. -/
def mok (k m : Nat) : Prop := (k = 1 ∧ m < 128) ∨ (k = 2 ∧ m < 8192) ∨ (k = 3 ∧ m < 524288) ∨ (k = 4 ∧ m < 33554432)
theorem mok_step {k m x : Nat} (h : mok k m) (hk : k < 4) (hx : x < 64) : mok (k + 1) (m * 64 + x) := by unfold mok at *; omega
theorem mok_lt {k m : Nat} (h : mok k m) (hk : k < 4) : m < 524288 := by unfold mok at h; omega
theorem mok_lt4 {k m : Nat} (h : mok k m) : m < 33554432 := by unfold mok at h; omega
/-- What Next answers of what was read. -/
def nres (q : Option Nat) (n : Nat) : Value :=
  match q with
  | none => .tuple #[.int .i64 (-1), .int .i64 1]
  | some c => if ulng c = n then .tuple #[.int .i64 (c : Nat), .int .i64 (n : Nat)] else .tuple #[.int .i64 (-1), .int .i64 1]
theorem nres_eq {c n : Nat} (h : ulng c = n) : nres (some c) n = .tuple #[.int .i64 (c : Nat), .int .i64 (n : Nat)] := by show (if ulng c = n then _ else _) = _; rw [if_pos h]
theorem nres_ne {c n : Nat} (h : ¬ ulng c = n) : nres (some c) n = .tuple #[.int .i64 (-1), .int .i64 1] := by show (if ulng c = n then _ else _) = _; rw [if_neg h]
theorem nres_none (n : Nat) : nres none n = .tuple #[.int .i64 (-1), .int .i64 1] := rfl
theorem drop_cons (s : ByteArray) (k : Nat) (h : k < s.size) : s.data.toList.drop k = s[k] :: s.data.toList.drop (k + 1) := by
  rw [List.drop_eq_getElem_cons (by simpa using h)]; rfl

theorem next_out (s : ByteArray) (at' : Int) (h : at' < 0 ∨ (s.size : Int) ≤ at') (w : World) :
    Calls Tryz.prog 85 #[.string s, .int .i64 at'] w fun e w' => e = .returned (.tuple #[.int .i64 0, .int .i64 0]) ∧ w' = w := by
  rcases h with h | h
  · go_enter Tryz.func85, Tryz.ntmps85
    go_wp2
    go_ret2
    exact ⟨rfl, rfl⟩
  · have h0 : 0 ≤ at' := by omega
    go_enter Tryz.func85, Tryz.ntmps85
    go_wp2
    go_ret2
    exact ⟨rfl, rfl⟩
theorem next_bad (s : ByteArray) (p n o : Nat) (hp : p < s.size) (_hmax : s.size ≤ 140737488351232) (hn : n = 0 ∨ (s.size < p + n ∧ n ≤ 4)) (w : World)
    (k1 : ∀ W, Calls Tryz.prog 128 #[.int .u8 (s[p].toNat : Int)] W fun e w' => e = .returned (.tuple #[.int .i32 (o : Int), .int .i64 (n : Int)]) ∧ w' = W) :
    Calls Tryz.prog 85 #[.string s, .int .i64 (p : Int)] w fun e w' => e = .returned (.tuple #[.int .i64 (-1), .int .i64 1]) ∧ w' = w := by
  have K1 := Lib.hid k1; clear k1
  have hp1 : (p : Int) < (s.size : Int) := by omega
  rcases hn with rfl | ⟨hn, hn4⟩
  · go_enter Tryz.func85, Tryz.ntmps85
    go_wp2_with (go_at_call 128; ((with_reducible refine (K1.out _).mono ?_); rintro e w' ⟨rfl, rfl⟩))
    go_ret2
    exact ⟨rfl, rfl⟩
  · have hn0 : 1 ≤ n := by omega
    have hnz : ((n : Int) == 0) = false := by rw [beq_eq_false_iff_ne]; omega
    have hgt : (s.size : Int) - p < (n : Int) := by omega
    go_enter Tryz.func85, Tryz.ntmps85
    go_wp2_with (go_at_call 128; ((with_reducible refine (K1.out _).mono ?_); rintro e w' ⟨rfl, rfl⟩))
    go_ret2
    exact ⟨rfl, rfl⟩
set_option maxHeartbeats 1000000 in
theorem next_loop (s : ByteArray) (p n o : Nat) (q : Option Nat) (hn1 : 1 ≤ n) (hn4 : n ≤ 4) (hp : p < s.size) (hpn : p + n ≤ s.size) (hmax : s.size ≤ 140737488351232) (ho : o < 128) (hq : uacc o (n - 1) (s.data.toList.drop (p + 1)) = q) (w : World)
    (k1 : ∀ W, Calls Tryz.prog 128 #[.int .u8 (s[p].toNat : Int)] W fun e w' => e = .returned (.tuple #[.int .i32 (o : Int), .int .i64 (n : Int)]) ∧ w' = W) :
    Calls Tryz.prog 85 #[.string s, .int .i64 (p : Int)] w fun e w' => e = .returned (nres q n) ∧ w' = w := by
  have K1 := Lib.hid k1; have HQ := Lib.hid hq; clear k1 hq
  have hp1 : (p : Int) < (s.size : Int) := by omega
  have hnz : ((n : Int) == 0) = false := by rw [beq_eq_false_iff_ne]; omega
  have hgt : (n : Int) ≤ (s.size : Int) - p := by omega
  go_enter Tryz.func85, Tryz.ntmps85
  go_wp2_with (go_at_call 128; ((with_reducible refine (K1.out _).mono ?_); rintro e w' ⟨rfl, rfl⟩))
  go_loop [6, 8] (fun c i => ∃ k m : Nat, 1 ≤ k ∧ k ≤ n ∧ c = .int .i32 (m : Nat) ∧ i = .int .i64 (k : Nat) ∧ mok k m ∧ Hid (uacc m (n - k) (s.data.toList.drop (p + k)) = q)) (fun _ i => n - (intOf i).toNat)
  case atStart => exact ⟨1, o, Nat.le_refl _, hn1, rfl, rfl, Or.inl ⟨rfl, ho⟩, HQ⟩
  case round =>
    obtain ⟨k, m, hk1, hk2, rfl, rfl, hm, HU⟩ := hrel
    have hm4 := mok_lt4 hm
    by_cases hlt : k < n
    · have hpk : p + k < s.size := by omega
      have hdrop := drop_cons s (p + k) hpk
      have HU2 : Hid (uacc m (n - k) (s[p + k] :: s.data.toList.drop (p + k + 1)) = q) := by rw [← hdrop]; exact HU
      clear hdrop HU
      have hm3 := mok_lt hm (by omega)
      have hb : s[p + k].toNat < 256 := UInt8.toNat_lt _
      have hi0 : (0 : Int) ≤ (p : Int) + k := by omega
      have hi1 : (p : Int) + k < (s.size : Int) := by omega
      have hlti : (k : Int) < (n : Int) := by omega
      cases hc : ucon s[p + k].toNat with
      | false =>
        have C := fun W => gone_any s[p + k].toNat hb W
        rw [hc] at C
        have HC := Lib.hid C; clear C
        have HQ2 : Hid (q = none) := by
          have := HU2.out
          rw [show n - k = (n - k - 1) + 1 from by omega] at this
          simp only [uacc, hc] at this
          exact this.symm
        clear HU2 hc
        go_wp2_with (go_at_call 129; ((with_reducible refine (HC.out _).mono ?_); rintro e w' ⟨rfl, rfl⟩))
        go_ret2
        exact ⟨by rw [HQ2.out]; rfl, rfl⟩
      | true =>
        have C := fun W => gone_any s[p + k].toNat hb W
        rw [hc] at C
        have hb2 : 128 ≤ s[p + k].toNat ∧ s[p + k].toNat < 192 := by unfold ucon at hc; exact of_decide_eq_true hc
        have hx : s[p + k].toNat % 64 = s[p + k].toNat - 128 := by omega
        have HU3 : Hid (uacc (m * 64 + s[p + k].toNat % 64) (n - (k + 1)) (s.data.toList.drop (p + (k + 1))) = q) := by
          have := HU2.out
          rw [show n - k = (n - (k + 1)) + 1 from by omega] at this
          simp only [uacc, hc, if_true] at this
          rw [hx]
          exact this
        have hx64 : s[p + k].toNat % 64 < 64 := by omega
        clear HU2 hc hb2 hx
        generalize s[p + k].toNat % 64 = x at C HU3 hx64
        have HC := Lib.hid C; clear C
        have hor := join6 hm3 hx64
        go_wp2_with (go_at_call 129; ((with_reducible refine (HC.out _).mono ?_); rintro e w' ⟨rfl, rfl⟩))
        go_round
        case rel => exact ⟨k + 1, m * 64 + x, by omega, by omega, rfl, by go_num, mok_step hm (by omega) hx64, HU3⟩
        case measure => simp [intOf]; omega
    · obtain rfl : k = n := by omega
      have HQ2 : Hid (q = some m) := by
        have := HU.out
        rw [Nat.sub_self] at this
        simp only [uacc] at this
        exact this.symm
      clear HU
      have C := fun W => length_any (m : Int) W
      rw [zlng_nat] at C
      have hl4 := ulng_le m
      by_cases he : ulng m = k
      · rw [he] at C
        have HE := Lib.hid (nres_eq he)
        have HC := Lib.hid C; clear C he hl4
        go_wp2_with (go_at_call 130; ((with_reducible refine (HC.out _).mono ?_); rintro e w' ⟨rfl, rfl⟩))
        go_ret2
        exact ⟨by rw [HQ2.out, HE.out]; rfl, rfl⟩
      · have HE := Lib.hid (nres_ne he)
        have hne : ((ulng m : Int) != (k : Int)) = true := by rw [bne_iff_ne]; omega
        have HC := Lib.hid C; clear C he
        generalize ulng m = L at *
        go_wp2_with (go_at_call 130; ((with_reducible refine (HC.out _).mono ?_); rintro e w' ⟨rfl, rfl⟩))
        go_ret2
        exact ⟨by rw [HQ2.out, HE.out]; rfl, rfl⟩
/-- What stands at a place. -/
def uat (s : ByteArray) (p : Int) : List UInt8 := if p < 0 then [] else s.data.toList.drop p.toNat
theorem uat_nat (s : ByteArray) (p : Nat) : uat s (p : Int) = s.data.toList.drop p := by unfold uat; rw [if_neg (by omega), Int.toNat_natCast]
theorem uat_out {s : ByteArray} {p : Int} (h : p < 0 ∨ (s.size : Int) ≤ p) : uat s p = [] := by
  unfold uat
  split
  · rfl
  · exact List.drop_of_length_le (by rw [Array.length_toList]; show s.size ≤ p.toNat; omega)
/-- What a Next answers, in all ways. -/
def nans (l : List UInt8) : Value := .tuple #[.int .i64 (unc l), .int .i64 (unn l : Nat)]
theorem nans_none {l : List UInt8} (h : l ≠ []) (hd : udec l = none) : nans l = .tuple #[.int .i64 (-1), .int .i64 1] := by
  unfold nans unc unn
  rw [if_neg h, if_neg h, hd]
  rfl
theorem nans_res {b : UInt8} {r : List UInt8} (h : usz b.toNat ≠ 0) : nans (b :: r) = nres (uacc (uown b.toNat) (usz b.toNat - 1) r) (usz b.toNat) := by
  unfold nans unc unn
  rw [if_neg (by simp), if_neg (by simp)]
  simp only [udec, if_neg h]
  cases uacc (uown b.toNat) (usz b.toNat - 1) r with
  | none => rfl
  | some c =>
    simp only
    by_cases he : ulng c = usz b.toNat
    · rw [nres_eq he, if_pos he]
    · rw [nres_ne he, if_neg he]; rfl
theorem next_any (s : ByteArray) (hmax : s.size ≤ 140737488351232) (p : Int) (w : World) :
    Calls Tryz.prog 85 #[.string s, .int .i64 p] w fun e w' => e = .returned (nans (uat s p)) ∧ w' = w := by
  by_cases hout : p < 0 ∨ (s.size : Int) ≤ p
  · rw [uat_out hout]; exact next_out s p hout w
  · obtain ⟨p, rfl⟩ := Int.eq_ofNat_of_zero_le (show 0 ≤ p by omega)
    have hp : p < s.size := by omega
    rw [uat_nat, drop_cons s p hp]
    have hb : s[p].toNat < 256 := UInt8.toNat_lt _
    have C := fun W => begun_any s[p].toNat hb W
    have h4 := usz_le s[p].toNat
    by_cases h0 : usz s[p].toNat = 0
    · rw [nans_none (by simp) (by simp [udec, h0])]
      exact next_bad s p _ _ hp hmax (Or.inl h0) w C
    · by_cases hl : p + usz s[p].toNat ≤ s.size
      · rw [nans_res h0]
        exact next_loop s p _ _ _ (by omega) h4 hp hl hmax (by unfold uown; (repeat' split) <;> omega) rfl w C
      · have hd : uacc (uown s[p].toNat) (usz s[p].toNat - 1) (s.data.toList.drop (p + 1)) = none := by
          cases hu : uacc (uown s[p].toNat) (usz s[p].toNat - 1) (s.data.toList.drop (p + 1)) with
          | none => rfl
          | some d =>
            have := uacc_len _ _ _ _ hu
            rw [List.length_drop, Array.length_toList, show s.data.size = s.size from rfl] at this
            omega
        rw [nans_res h0, hd, nres_none]
        exact next_bad s p _ _ hp hmax (Or.inr ⟨by omega, h4⟩) w C
end Go.Proofs.YtocffoemimghhaaGreatDoor
end
section
namespace Go.Proofs.YtocffoemimghhaaGreatDoor
open Go.RowKit

theorem and192 : ∀ x : Fin 256, x.val &&& 192 = x.val / 64 * 64 := by decide +kernel
theorem con_yes {b : Nat} (hb : b < 256) (h : ucon b = true) : bits .and .u8 (b : Int) 192 = 128 := by
  have := and_u8 (m := 192) hb (by decide)
  rw [and192 ⟨b, hb⟩] at this
  have h2 : 128 ≤ b ∧ b < 192 := by unfold ucon at h; exact of_decide_eq_true h
  rw [show ((192 : Nat) : Int) = 192 from rfl] at this
  rw [this]
  exact congrArg (fun n : Nat => (n : Int)) (show b / 64 * 64 = 128 by omega)
theorem con_no {b : Nat} (hb : b < 256) (h : ucon b = false) : ∃ A : Int, bits .and .u8 (b : Int) 192 = A ∧ (A != 128) = true := by
  refine ⟨_, rfl, ?_⟩
  have := and_u8 (m := 192) hb (by decide)
  rw [and192 ⟨b, hb⟩] at this
  rw [show ((192 : Nat) : Int) = 192 from rfl] at this
  have h2 : ¬ (128 ≤ b ∧ b < 192) := by unfold ucon at h; exact of_decide_eq_false h
  rw [this, bne_iff_ne]
  intro hc
  have : b / 64 * 64 = 128 := by simp only at hc; omega
  omega
theorem con_low {b : Nat} (hb : b < 256) : bits .and .u8 (b : Int) 63 = ((b % 64 : Nat) : Int) := by
  have := and_u8 (m := 63) hb (by decide)
  rw [nat_mask6] at this
  exact this
/-- How great what has been read can be, by the size that the first byte told. -/
def mok2 (n k m : Nat) : Prop := (n = 2 ∧ ((k = 1 ∧ m < 32) ∨ (k = 2 ∧ m < 2048))) ∨ (n = 3 ∧ ((k = 1 ∧ m < 16) ∨ (k = 2 ∧ m < 1024) ∨ (k = 3 ∧ m < 65536))) ∨ (n = 4 ∧ ((k = 1 ∧ m < 8) ∨ (k = 2 ∧ m < 512) ∨ (k = 3 ∧ m < 32768) ∨ (k = 4 ∧ m < 2097152)))
theorem mok2_step {n k m x : Nat} (h : mok2 n k m) (hk : k < n) (hx : x < 64) : mok2 n (k + 1) (m * 64 + x) := by unfold mok2 at *; omega
theorem mok2_lt {n k m : Nat} (h : mok2 n k m) : m < 2097152 := by unfold mok2 at h; omega
theorem mok2_end {n m : Nat} (h : mok2 n n m) (least : Nat) (hl : (n = 2 ∧ least = 128) ∨ (n = 3 ∧ least = 2048) ∨ (n = 4 ∧ least = 65536)) : ulng m = n ↔ least ≤ m ∧ ulng m ≠ 0 := by
  have hm : (n = 2 ∧ m < 2048) ∨ (n = 3 ∧ m < 65536) ∨ n = 4 := by unfold mok2 at h; omega
  clear h
  unfold ulng
  split
  · omega
  · split
    · omega
    · split
      · omega
      · split <;> omega

set_option maxRecDepth 4000000 in
theorem rnext_out (s : ByteArray) (at' : Int) (h : at' < 0 ∨ (s.size : Int) ≤ at') (w : World) :
    Calls Tryz.prog 149 #[.string s, .int .i64 at'] w fun e w' => e = .returned (.tuple #[.int .i64 0, .int .i64 0]) ∧ w' = w := by
  rcases h with h | h
  · go_enter Tryz.func149, Tryz.ntmps149
    go_wp2
    go_ret2
    exact ⟨rfl, rfl⟩
  · have h0 : 0 ≤ at' := by omega
    go_enter Tryz.func149, Tryz.ntmps149
    go_wp2
    go_ret2
    exact ⟨rfl, rfl⟩
set_option maxRecDepth 4000000 in
theorem rnext_one (s : ByteArray) (p : Nat) (hp : p < s.size) (hb : s[p].toNat < 128) (w : World) :
    Calls Tryz.prog 149 #[.string s, .int .i64 (p : Int)] w fun e w' => e = .returned (.tuple #[.int .i64 (s[p].toNat : Nat), .int .i64 1]) ∧ w' = w := by
  have hp1 : (p : Int) < (s.size : Int) := by omega
  have hb1 : (s[p].toNat : Int) < 128 := by omega
  go_enter Tryz.func149, Tryz.ntmps149
  go_wp2
  go_ret2
  exact ⟨rfl, rfl⟩
set_option maxRecDepth 4000000 in
theorem rnext_no (s : ByteArray) (p : Nat) (hp : p < s.size) (hb : (128 ≤ s[p].toNat ∧ s[p].toNat < 192) ∨ 248 ≤ s[p].toNat) (w : World) :
    Calls Tryz.prog 149 #[.string s, .int .i64 (p : Int)] w fun e w' => e = .returned (.tuple #[.int .i64 (-1), .int .i64 1]) ∧ w' = w := by
  have hp1 : (p : Int) < (s.size : Int) := by omega
  rcases hb with ⟨h1, h2⟩ | h1
  · have hb1 : (128 : Int) ≤ (s[p].toNat : Int) := by omega
    have hb2 : (s[p].toNat : Int) < 192 := by omega
    go_enter Tryz.func149, Tryz.ntmps149
    go_wp2
    go_ret2
    exact ⟨rfl, rfl⟩
  · have hb1 : (248 : Int) ≤ (s[p].toNat : Int) := by omega
    have hb2 : (s[p].toNat : Int) < 256 := by have := UInt8.toNat_lt s[p]; omega
    go_enter Tryz.func149, Tryz.ntmps149
    go_wp2
    go_ret2
    exact ⟨rfl, rfl⟩
set_option maxRecDepth 4000000 in
theorem rnext_short2 (s : ByteArray) (p o : Nat) (hp : p < s.size) (hmax : s.size ≤ 140737488351232) (h1 : 192 ≤ s[p].toNat) (h2 : s[p].toNat < 224) (ho : bits .and .i64 (s[p].toNat : Int) 31 = (o : Int)) (hpn : s.size < p + 2) (w : World) :
    Calls Tryz.prog 149 #[.string s, .int .i64 (p : Int)] w fun e w' => e = .returned (.tuple #[.int .i64 (-1), .int .i64 1]) ∧ w' = w := by
  have hp1 : (p : Int) < (s.size : Int) := by omega
  have hb1 : (192 : Int) ≤ (s[p].toNat : Int) := by omega
  have hb2 : (s[p].toNat : Int) < 224 := by omega
  have hpn1 : (s.size : Int) < (p : Int) + 2 := by omega
  go_enter Tryz.func149, Tryz.ntmps149
  go_wp2
  go_ret2
  exact ⟨rfl, rfl⟩
set_option maxHeartbeats 1000000 in
set_option maxRecDepth 4000000 in
theorem rnext_loop2 (s : ByteArray) (p o : Nat) (q : Option Nat) (hp : p < s.size) (hmax : s.size ≤ 140737488351232) (h1 : 192 ≤ s[p].toNat) (h2 : s[p].toNat < 224) (ho : bits .and .i64 (s[p].toNat : Int) 31 = (o : Int)) (hom : mok2 2 1 o) (hpn : p + 2 ≤ s.size) (hq : uacc o 1 (s.data.toList.drop (p + 1)) = q) (w : World) :
    Calls Tryz.prog 149 #[.string s, .int .i64 (p : Int)] w fun e w' => e = .returned (nres q 2) ∧ w' = w := by
  have HQ := Lib.hid hq; clear hq
  have hp1 : (p : Int) < (s.size : Int) := by omega
  have hb1 : (192 : Int) ≤ (s[p].toNat : Int) := by omega
  have hb2 : (s[p].toNat : Int) < 224 := by omega
  have hpn1 : (p : Int) + 2 ≤ (s.size : Int) := by omega
  go_enter Tryz.func149, Tryz.ntmps149
  go_wp2
  go_loop [6, 9] (fun c i => ∃ k m : Nat, 1 ≤ k ∧ k ≤ 2 ∧ c = .int .i64 (m : Nat) ∧ i = .int .i64 (k : Nat) ∧ mok2 2 k m ∧ Hid (uacc m (2 - k) (s.data.toList.drop (p + k)) = q)) (fun _ i => 2 - (intOf i).toNat)
  case atStart => exact ⟨1, o, by decide, by decide, rfl, rfl, hom, HQ⟩
  case round =>
    obtain ⟨k, m, hk1, hk2, rfl, rfl, hm, HU⟩ := hrel
    have hm4 := mok2_lt hm
    by_cases hlt : k < 2
    · have hpk : p + k < s.size := by omega
      have hdrop := drop_cons s (p + k) hpk
      have HU2 : Hid (uacc m (2 - k) (s[p + k] :: s.data.toList.drop (p + k + 1)) = q) := by rw [← hdrop]; exact HU
      clear hdrop HU
      have hb : s[p + k].toNat < 256 := UInt8.toNat_lt _
      have hi0 : (0 : Int) ≤ (p : Int) + k := by omega
      have hi1 : (p : Int) + k < (s.size : Int) := by omega
      have hlti : (k : Int) < 2 := by omega
      cases hc : ucon s[p + k].toNat with
      | false =>
        obtain ⟨A, hA, hA2⟩ := con_no hb hc
        have HQ2 : Hid (q = none) := by
          have := HU2.out
          rw [show 2 - k = (2 - k - 1) + 1 from by omega] at this
          simp only [uacc, hc] at this
          exact this.symm
        clear HU2 hc
        go_wp2
        go_ret2
        exact ⟨by rw [HQ2.out]; rfl, rfl⟩
      | true =>
        have hA := con_yes hb hc
        have hA2 := con_low hb
        have hb2 : 128 ≤ s[p + k].toNat ∧ s[p + k].toNat < 192 := by unfold ucon at hc; exact of_decide_eq_true hc
        have hx : s[p + k].toNat % 64 = s[p + k].toNat - 128 := by omega
        have HU3 : Hid (uacc (m * 64 + s[p + k].toNat % 64) (2 - (k + 1)) (s.data.toList.drop (p + (k + 1))) = q) := by
          have := HU2.out
          rw [show 2 - k = (2 - (k + 1)) + 1 from by omega] at this
          simp only [uacc, hc, if_true] at this
          rw [hx]
          exact this
        have hx64 : s[p + k].toNat % 64 < 64 := by omega
        clear HU2 hc hb2 hx
        generalize s[p + k].toNat % 64 = x at hA2 HU3 hx64
        go_wp2
        go_round
        case rel => exact ⟨k + 1, m * 64 + x, by omega, by omega, by go_num, by go_num, mok2_step hm hlt hx64, HU3⟩
        case measure => simp [intOf]; omega
    · obtain rfl : k = 2 := by omega
      have HQ2 : Hid (q = some m) := by
        have := HU.out
        simp only [Nat.sub_self, uacc] at this
        exact this.symm
      clear HU
      have hend := mok2_end hm 128 (by decide)
      by_cases hl : 128 ≤ m
      · have C := fun W => point_any (m : Int) W
        rw [zlng_nat] at C
        have hl1 : (128 : Int) ≤ (m : Int) := by omega
        by_cases h0 : ulng m = 0
        · rw [decide_eq_false (by omega)] at C
          have HE := Lib.hid (nres_ne (c := m) (n := 2) (by omega))
          have HC := Lib.hid C; clear C hend h0
          go_wp2_with (go_at_call 176; ((with_reducible refine (HC.out _).mono ?_); rintro e w' ⟨rfl, rfl⟩))
          go_ret2
          exact ⟨by rw [HQ2.out, HE.out]; rfl, rfl⟩
        · rw [decide_eq_true (by omega)] at C
          have HE := Lib.hid (nres_eq (c := m) (n := 2) (hend.2 ⟨hl, h0⟩))
          have HC := Lib.hid C; clear C hend h0
          go_wp2_with (go_at_call 176; ((with_reducible refine (HC.out _).mono ?_); rintro e w' ⟨rfl, rfl⟩))
          go_ret2
          exact ⟨by rw [HQ2.out, HE.out]; rfl, rfl⟩
      · have hl1 : (m : Int) < 128 := by omega
        have HE := Lib.hid (nres_ne (c := m) (n := 2) (fun he => hl (hend.1 he).1))
        clear hend
        go_wp2
        go_ret2
        exact ⟨by rw [HQ2.out, HE.out]; rfl, rfl⟩
set_option maxRecDepth 4000000 in
theorem rnext_short3 (s : ByteArray) (p o : Nat) (hp : p < s.size) (hmax : s.size ≤ 140737488351232) (h1 : 224 ≤ s[p].toNat) (h2 : s[p].toNat < 240) (ho : bits .and .i64 (s[p].toNat : Int) 15 = (o : Int)) (hpn : s.size < p + 3) (w : World) :
    Calls Tryz.prog 149 #[.string s, .int .i64 (p : Int)] w fun e w' => e = .returned (.tuple #[.int .i64 (-1), .int .i64 1]) ∧ w' = w := by
  have hp1 : (p : Int) < (s.size : Int) := by omega
  have hb1 : (224 : Int) ≤ (s[p].toNat : Int) := by omega
  have hb2 : (s[p].toNat : Int) < 240 := by omega
  have hpn1 : (s.size : Int) < (p : Int) + 3 := by omega
  go_enter Tryz.func149, Tryz.ntmps149
  go_wp2
  go_ret2
  exact ⟨rfl, rfl⟩
set_option maxHeartbeats 1000000 in
set_option maxRecDepth 4000000 in
theorem rnext_loop3 (s : ByteArray) (p o : Nat) (q : Option Nat) (hp : p < s.size) (hmax : s.size ≤ 140737488351232) (h1 : 224 ≤ s[p].toNat) (h2 : s[p].toNat < 240) (ho : bits .and .i64 (s[p].toNat : Int) 15 = (o : Int)) (hom : mok2 3 1 o) (hpn : p + 3 ≤ s.size) (hq : uacc o 2 (s.data.toList.drop (p + 1)) = q) (w : World) :
    Calls Tryz.prog 149 #[.string s, .int .i64 (p : Int)] w fun e w' => e = .returned (nres q 3) ∧ w' = w := by
  have HQ := Lib.hid hq; clear hq
  have hp1 : (p : Int) < (s.size : Int) := by omega
  have hb1 : (224 : Int) ≤ (s[p].toNat : Int) := by omega
  have hb2 : (s[p].toNat : Int) < 240 := by omega
  have hpn1 : (p : Int) + 3 ≤ (s.size : Int) := by omega
  go_enter Tryz.func149, Tryz.ntmps149
  go_wp2
  go_loop [6, 9] (fun c i => ∃ k m : Nat, 1 ≤ k ∧ k ≤ 3 ∧ c = .int .i64 (m : Nat) ∧ i = .int .i64 (k : Nat) ∧ mok2 3 k m ∧ Hid (uacc m (3 - k) (s.data.toList.drop (p + k)) = q)) (fun _ i => 3 - (intOf i).toNat)
  case atStart => exact ⟨1, o, by decide, by decide, rfl, rfl, hom, HQ⟩
  case round =>
    obtain ⟨k, m, hk1, hk2, rfl, rfl, hm, HU⟩ := hrel
    have hm4 := mok2_lt hm
    by_cases hlt : k < 3
    · have hpk : p + k < s.size := by omega
      have hdrop := drop_cons s (p + k) hpk
      have HU2 : Hid (uacc m (3 - k) (s[p + k] :: s.data.toList.drop (p + k + 1)) = q) := by rw [← hdrop]; exact HU
      clear hdrop HU
      have hb : s[p + k].toNat < 256 := UInt8.toNat_lt _
      have hi0 : (0 : Int) ≤ (p : Int) + k := by omega
      have hi1 : (p : Int) + k < (s.size : Int) := by omega
      have hlti : (k : Int) < 3 := by omega
      cases hc : ucon s[p + k].toNat with
      | false =>
        obtain ⟨A, hA, hA2⟩ := con_no hb hc
        have HQ2 : Hid (q = none) := by
          have := HU2.out
          rw [show 3 - k = (3 - k - 1) + 1 from by omega] at this
          simp only [uacc, hc] at this
          exact this.symm
        clear HU2 hc
        go_wp2
        go_ret2
        exact ⟨by rw [HQ2.out]; rfl, rfl⟩
      | true =>
        have hA := con_yes hb hc
        have hA2 := con_low hb
        have hb2 : 128 ≤ s[p + k].toNat ∧ s[p + k].toNat < 192 := by unfold ucon at hc; exact of_decide_eq_true hc
        have hx : s[p + k].toNat % 64 = s[p + k].toNat - 128 := by omega
        have HU3 : Hid (uacc (m * 64 + s[p + k].toNat % 64) (3 - (k + 1)) (s.data.toList.drop (p + (k + 1))) = q) := by
          have := HU2.out
          rw [show 3 - k = (3 - (k + 1)) + 1 from by omega] at this
          simp only [uacc, hc, if_true] at this
          rw [hx]
          exact this
        have hx64 : s[p + k].toNat % 64 < 64 := by omega
        clear HU2 hc hb2 hx
        generalize s[p + k].toNat % 64 = x at hA2 HU3 hx64
        go_wp2
        go_round
        case rel => exact ⟨k + 1, m * 64 + x, by omega, by omega, by go_num, by go_num, mok2_step hm hlt hx64, HU3⟩
        case measure => simp [intOf]; omega
    · obtain rfl : k = 3 := by omega
      have HQ2 : Hid (q = some m) := by
        have := HU.out
        simp only [Nat.sub_self, uacc] at this
        exact this.symm
      clear HU
      have hend := mok2_end hm 2048 (by decide)
      by_cases hl : 2048 ≤ m
      · have C := fun W => point_any (m : Int) W
        rw [zlng_nat] at C
        have hl1 : (2048 : Int) ≤ (m : Int) := by omega
        by_cases h0 : ulng m = 0
        · rw [decide_eq_false (by omega)] at C
          have HE := Lib.hid (nres_ne (c := m) (n := 3) (by omega))
          have HC := Lib.hid C; clear C hend h0
          go_wp2_with (go_at_call 176; ((with_reducible refine (HC.out _).mono ?_); rintro e w' ⟨rfl, rfl⟩))
          go_ret2
          exact ⟨by rw [HQ2.out, HE.out]; rfl, rfl⟩
        · rw [decide_eq_true (by omega)] at C
          have HE := Lib.hid (nres_eq (c := m) (n := 3) (hend.2 ⟨hl, h0⟩))
          have HC := Lib.hid C; clear C hend h0
          go_wp2_with (go_at_call 176; ((with_reducible refine (HC.out _).mono ?_); rintro e w' ⟨rfl, rfl⟩))
          go_ret2
          exact ⟨by rw [HQ2.out, HE.out]; rfl, rfl⟩
      · have hl1 : (m : Int) < 2048 := by omega
        have HE := Lib.hid (nres_ne (c := m) (n := 3) (fun he => hl (hend.1 he).1))
        clear hend
        go_wp2
        go_ret2
        exact ⟨by rw [HQ2.out, HE.out]; rfl, rfl⟩
set_option maxRecDepth 4000000 in
theorem rnext_short4 (s : ByteArray) (p o : Nat) (hp : p < s.size) (hmax : s.size ≤ 140737488351232) (h1 : 240 ≤ s[p].toNat) (h2 : s[p].toNat < 248) (ho : bits .and .i64 (s[p].toNat : Int) 7 = (o : Int)) (hpn : s.size < p + 4) (w : World) :
    Calls Tryz.prog 149 #[.string s, .int .i64 (p : Int)] w fun e w' => e = .returned (.tuple #[.int .i64 (-1), .int .i64 1]) ∧ w' = w := by
  have hp1 : (p : Int) < (s.size : Int) := by omega
  have hb1 : (240 : Int) ≤ (s[p].toNat : Int) := by omega
  have hb2 : (s[p].toNat : Int) < 248 := by omega
  have hpn1 : (s.size : Int) < (p : Int) + 4 := by omega
  go_enter Tryz.func149, Tryz.ntmps149
  go_wp2
  go_ret2
  exact ⟨rfl, rfl⟩
set_option maxHeartbeats 1000000 in
set_option maxRecDepth 4000000 in
theorem rnext_loop4 (s : ByteArray) (p o : Nat) (q : Option Nat) (hp : p < s.size) (hmax : s.size ≤ 140737488351232) (h1 : 240 ≤ s[p].toNat) (h2 : s[p].toNat < 248) (ho : bits .and .i64 (s[p].toNat : Int) 7 = (o : Int)) (hom : mok2 4 1 o) (hpn : p + 4 ≤ s.size) (hq : uacc o 3 (s.data.toList.drop (p + 1)) = q) (w : World) :
    Calls Tryz.prog 149 #[.string s, .int .i64 (p : Int)] w fun e w' => e = .returned (nres q 4) ∧ w' = w := by
  have HQ := Lib.hid hq; clear hq
  have hp1 : (p : Int) < (s.size : Int) := by omega
  have hb1 : (240 : Int) ≤ (s[p].toNat : Int) := by omega
  have hb2 : (s[p].toNat : Int) < 248 := by omega
  have hpn1 : (p : Int) + 4 ≤ (s.size : Int) := by omega
  go_enter Tryz.func149, Tryz.ntmps149
  go_wp2
  go_loop [6, 9] (fun c i => ∃ k m : Nat, 1 ≤ k ∧ k ≤ 4 ∧ c = .int .i64 (m : Nat) ∧ i = .int .i64 (k : Nat) ∧ mok2 4 k m ∧ Hid (uacc m (4 - k) (s.data.toList.drop (p + k)) = q)) (fun _ i => 4 - (intOf i).toNat)
  case atStart => exact ⟨1, o, by decide, by decide, rfl, rfl, hom, HQ⟩
  case round =>
    obtain ⟨k, m, hk1, hk2, rfl, rfl, hm, HU⟩ := hrel
    have hm4 := mok2_lt hm
    by_cases hlt : k < 4
    · have hpk : p + k < s.size := by omega
      have hdrop := drop_cons s (p + k) hpk
      have HU2 : Hid (uacc m (4 - k) (s[p + k] :: s.data.toList.drop (p + k + 1)) = q) := by rw [← hdrop]; exact HU
      clear hdrop HU
      have hb : s[p + k].toNat < 256 := UInt8.toNat_lt _
      have hi0 : (0 : Int) ≤ (p : Int) + k := by omega
      have hi1 : (p : Int) + k < (s.size : Int) := by omega
      have hlti : (k : Int) < 4 := by omega
      cases hc : ucon s[p + k].toNat with
      | false =>
        obtain ⟨A, hA, hA2⟩ := con_no hb hc
        have HQ2 : Hid (q = none) := by
          have := HU2.out
          rw [show 4 - k = (4 - k - 1) + 1 from by omega] at this
          simp only [uacc, hc] at this
          exact this.symm
        clear HU2 hc
        go_wp2
        go_ret2
        exact ⟨by rw [HQ2.out]; rfl, rfl⟩
      | true =>
        have hA := con_yes hb hc
        have hA2 := con_low hb
        have hb2 : 128 ≤ s[p + k].toNat ∧ s[p + k].toNat < 192 := by unfold ucon at hc; exact of_decide_eq_true hc
        have hx : s[p + k].toNat % 64 = s[p + k].toNat - 128 := by omega
        have HU3 : Hid (uacc (m * 64 + s[p + k].toNat % 64) (4 - (k + 1)) (s.data.toList.drop (p + (k + 1))) = q) := by
          have := HU2.out
          rw [show 4 - k = (4 - (k + 1)) + 1 from by omega] at this
          simp only [uacc, hc, if_true] at this
          rw [hx]
          exact this
        have hx64 : s[p + k].toNat % 64 < 64 := by omega
        clear HU2 hc hb2 hx
        generalize s[p + k].toNat % 64 = x at hA2 HU3 hx64
        go_wp2
        go_round
        case rel => exact ⟨k + 1, m * 64 + x, by omega, by omega, by go_num, by go_num, mok2_step hm hlt hx64, HU3⟩
        case measure => simp [intOf]; omega
    · obtain rfl : k = 4 := by omega
      have HQ2 : Hid (q = some m) := by
        have := HU.out
        simp only [Nat.sub_self, uacc] at this
        exact this.symm
      clear HU
      have hend := mok2_end hm 65536 (by decide)
      by_cases hl : 65536 ≤ m
      · have C := fun W => point_any (m : Int) W
        rw [zlng_nat] at C
        have hl1 : (65536 : Int) ≤ (m : Int) := by omega
        by_cases h0 : ulng m = 0
        · rw [decide_eq_false (by omega)] at C
          have HE := Lib.hid (nres_ne (c := m) (n := 4) (by omega))
          have HC := Lib.hid C; clear C hend h0
          go_wp2_with (go_at_call 176; ((with_reducible refine (HC.out _).mono ?_); rintro e w' ⟨rfl, rfl⟩))
          go_ret2
          exact ⟨by rw [HQ2.out, HE.out]; rfl, rfl⟩
        · rw [decide_eq_true (by omega)] at C
          have HE := Lib.hid (nres_eq (c := m) (n := 4) (hend.2 ⟨hl, h0⟩))
          have HC := Lib.hid C; clear C hend h0
          go_wp2_with (go_at_call 176; ((with_reducible refine (HC.out _).mono ?_); rintro e w' ⟨rfl, rfl⟩))
          go_ret2
          exact ⟨by rw [HQ2.out, HE.out]; rfl, rfl⟩
      · have hl1 : (m : Int) < 65536 := by omega
        have HE := Lib.hid (nres_ne (c := m) (n := 4) (fun he => hl (hend.1 he).1))
        clear hend
        go_wp2
        go_ret2
        exact ⟨by rw [HQ2.out, HE.out]; rfl, rfl⟩
theorem i64_and_nat (a b : Nat) (ha : a < 4611686018427387904) (hb : b < 4611686018427387904) : bits .and .i64 (a : Int) (b : Int) = ((a &&& b : Nat) : Int) := by
  have hx : a &&& b < 2 ^ 62 := Nat.and_lt_two_pow _ (by omega)
  show IntKind.i64.wrap ((BitVec.ofInt 64 (a : Int) &&& BitVec.ofInt 64 (b : Int)).toNat : Int) = _
  rw [BitVec.toNat_and, BitVec.ofInt_natCast, BitVec.ofInt_natCast, BitVec.toNat_ofNat, BitVec.toNat_ofNat, Nat.mod_eq_of_lt (show a < 2 ^ 64 by omega), Nat.mod_eq_of_lt (show b < 2 ^ 64 by omega)]
  simp [IntKind.wrap, IntKind.bits, IntKind.signed]
  omega
theorem rnext_any (s : ByteArray) (hmax : s.size ≤ 140737488351232) (p : Int) (w : World) :
    Calls Tryz.prog 149 #[.string s, .int .i64 p] w fun e w' => e = .returned (nans (uat s p)) ∧ w' = w := by
  by_cases hout : p < 0 ∨ (s.size : Int) ≤ p
  · rw [uat_out hout]; exact rnext_out s p hout w
  · obtain ⟨p, rfl⟩ := Int.eq_ofNat_of_zero_le (show 0 ≤ p by omega)
    have hp : p < s.size := by omega
    rw [uat_nat, drop_cons s p hp]
    have hb : s[p].toNat < 256 := UInt8.toNat_lt _
    by_cases h0 : usz s[p].toNat = 0
    · rw [nans_none (by simp) (by simp [udec, h0])]
      exact rnext_no s p hp (by unfold usz at h0; (repeat' split at h0) <;> omega) w
    have hd : ¬ p + usz s[p].toNat ≤ s.size → uacc (uown s[p].toNat) (usz s[p].toNat - 1) (s.data.toList.drop (p + 1)) = none := fun hl => by
      cases hu : uacc (uown s[p].toNat) (usz s[p].toNat - 1) (s.data.toList.drop (p + 1)) with
      | none => rfl
      | some d =>
        have := uacc_len _ _ _ _ hu
        rw [List.length_drop, Array.length_toList, show s.data.size = s.size from rfl] at this
        omega
    rw [nans_res h0]
    by_cases b1 : s[p].toNat < 128
    · have e1 : usz s[p].toNat = 1 := by unfold usz; rw [if_pos b1]
      have e2 : uown s[p].toNat = s[p].toNat := by unfold uown; rw [if_pos b1]
      rw [e1, e2]
      simp only [Nat.sub_self, uacc]
      rw [nres_eq (by unfold ulng; rw [if_neg (by omega), if_pos b1])]
      exact rnext_one s p hp b1 w
    have b2 : ¬ s[p].toNat < 192 := by intro h; apply h0; unfold usz; rw [if_neg b1, if_pos h]
    by_cases b3 : s[p].toNat < 224
    · have e1 : usz s[p].toNat = 2 := by unfold usz; rw [if_neg b1, if_neg b2, if_pos b3]
      have e2 : uown s[p].toNat = s[p].toNat - 192 := by unfold uown; rw [if_neg b1, if_neg b2, if_pos b3]
      have ha : bits .and .i64 (s[p].toNat : Int) 31 = ((s[p].toNat - 192 : Nat) : Int) := by
        have := i64_and_nat s[p].toNat 31 (by omega) (by decide)
        rw [nat_mask5, show s[p].toNat % 32 = s[p].toNat - 192 from by omega] at this
        exact this
      rw [e1, e2] at hd ⊢
      by_cases hl : p + 2 ≤ s.size
      · exact rnext_loop2 s p _ _ hp hmax (by omega) b3 ha (by unfold mok2; omega) hl rfl w
      · rw [hd hl, nres_none]
        exact rnext_short2 s p _ hp hmax (by omega) b3 ha (by omega) w
    by_cases b4 : s[p].toNat < 240
    · have e1 : usz s[p].toNat = 3 := by unfold usz; rw [if_neg b1, if_neg b2, if_neg b3, if_pos b4]
      have e2 : uown s[p].toNat = s[p].toNat - 224 := by unfold uown; rw [if_neg b1, if_neg b2, if_neg b3, if_pos b4]
      have ha : bits .and .i64 (s[p].toNat : Int) 15 = ((s[p].toNat - 224 : Nat) : Int) := by
        have := i64_and_nat s[p].toNat 15 (by omega) (by decide)
        rw [nat_mask4, show s[p].toNat % 16 = s[p].toNat - 224 from by omega] at this
        exact this
      rw [e1, e2] at hd ⊢
      by_cases hl : p + 3 ≤ s.size
      · exact rnext_loop3 s p _ _ hp hmax (by omega) b4 ha (by unfold mok2; omega) hl rfl w
      · rw [hd hl, nres_none]
        exact rnext_short3 s p _ hp hmax (by omega) b4 ha (by omega) w
    have b5 : s[p].toNat < 248 := by apply Decidable.byContradiction; intro h; apply h0; unfold usz; rw [if_neg b1, if_neg b2, if_neg b3, if_neg b4, if_neg h]
    have e1 : usz s[p].toNat = 4 := by unfold usz; rw [if_neg b1, if_neg b2, if_neg b3, if_neg b4, if_pos b5]
    have e2 : uown s[p].toNat = s[p].toNat - 240 := by unfold uown; rw [if_neg b1, if_neg b2, if_neg b3, if_neg b4, if_pos b5]
    have ha : bits .and .i64 (s[p].toNat : Int) 7 = ((s[p].toNat - 240 : Nat) : Int) := by
      have := i64_and_nat s[p].toNat 7 (by omega) (by decide)
      rw [nat_mask3, show s[p].toNat % 8 = s[p].toNat - 240 from by omega] at this
      exact this
    rw [e1, e2] at hd ⊢
    by_cases hl : p + 4 ≤ s.size
    · exact rnext_loop4 s p _ _ hp hmax (by omega) b5 ha (by unfold mok2; omega) hl rfl w
    · rw [hd hl, nres_none]
      exact rnext_short4 s p _ hp hmax (by omega) b5 ha (by omega) w
end Go.Proofs.YtocffoemimghhaaGreatDoor
end
section
namespace Go.Proofs.YtocffoemimghhaaGreatDoor
open Go.RowKit

end Go.Proofs.YtocffoemimghhaaGreatDoor
end
section
namespace Go.Proofs.YtocffoemimghhaaGreatDoor
open Go.RowKit

theorem nans_some {l : List UInt8} {c n : Nat} (h : udec l = some (c, n)) : nans l = .tuple #[.int .i64 (c : Nat), .int .i64 (n : Nat)] := by
  unfold nans
  rw [unc_some h, unn_some h]
theorem drop_ne {s : ByteArray} {k : Nat} (h : k < s.size) : s.data.toList.drop k ≠ [] := by rw [drop_cons s k h]; simp
theorem drop_all {s : ByteArray} {k : Nat} (h : s.size ≤ k) : s.data.toList.drop k = [] := List.drop_of_length_le (by rw [Array.length_toList]; exact h)
theorem len_drop (s : ByteArray) (k : Nat) : (s.data.toList.drop k).length = s.size - k := by rw [List.length_drop, Array.length_toList]; rfl
theorem drop_drop' (s : ByteArray) (k n : Nat) : (s.data.toList.drop k).drop n = s.data.toList.drop (k + n) := by rw [List.drop_drop]
theorem zint {c : Nat} : ((c : Int) == -1) = false := by rw [beq_eq_false_iff_ne]; omega
set_option maxHeartbeats 1000000 in
theorem valid_any (s : ByteArray) (hmax : s.size ≤ 140737488351232) (w : World) :
    Calls Tryz.prog 52 #[.string s] w fun e w' => e = .returned (.bool (uval s.data.toList)) ∧ w' = w := by
  obtain ⟨V, hV⟩ : ∃ V, uval (s.data.toList.drop 0) = V := ⟨_, rfl⟩
  have HV := Lib.hid hV
  rw [List.drop_zero] at hV
  rw [hV]
  clear hV
  go_enter Tryz.func52, Tryz.ntmps52
  go_wp2
  go_loop [3] (fun p => ∃ k : Nat, k ≤ s.size ∧ p = .int .i64 (k : Nat) ∧ Hid (uval (s.data.toList.drop k) = V)) (fun p => s.size - (intOf p).toNat)
  case atStart => exact ⟨0, Nat.zero_le _, rfl, HV⟩
  case round =>
    obtain ⟨k, hk, rfl, HU⟩ := hrel
    by_cases hlt : k < s.size
    · have C := fun W => next_any s hmax (k : Int) W
      rw [uat_nat] at C
      have hlti : (k : Int) < (s.size : Int) := by omega
      have hne := drop_ne hlt
      have hstep := uval_cons hne
      cases hd : udec (s.data.toList.drop k) with
      | none =>
        rw [nans_none hne hd] at C
        rw [hd] at hstep
        have HF : Hid (V = false) := by rw [← HU.out, hstep]; rfl
        have HC := Lib.hid C; clear C hd hne hstep HU
        go_wp2_with (go_at_call 85; ((with_reducible refine (HC.out _).mono ?_); rintro e w' ⟨rfl, rfl⟩))
        go_ret
        exact ⟨by rw [HF.out]; rfl, rfl⟩
      | some cn =>
        obtain ⟨c, n⟩ := cn
        have hn := udec_some hd
        rw [len_drop] at hn
        rw [nans_some hd] at C
        rw [hd, unn_some hd, drop_drop'] at hstep
        have HF : Hid (uval (s.data.toList.drop (k + n)) = V) := by rw [← HU.out, hstep]; rfl
        obtain ⟨hn1, hn2, hn3, _⟩ := hn
        have hc1 := zint (c := c)
        have HC := Lib.hid C; clear C hd hne hstep HU
        go_wp2_with (go_at_call 85; ((with_reducible refine (HC.out _).mono ?_); rintro e w' ⟨rfl, rfl⟩))
        go_round
        case rel => exact ⟨k + n, by omega, by go_num, HF⟩
        case measure => simp [intOf]; omega
    · obtain rfl : k = s.size := by omega
      have HF : Hid (V = true) := by rw [← HU.out, drop_all (Nat.le_refl _), uval_nil]; rfl
      clear HU
      go_wp2
      go_ret
      exact ⟨by rw [HF.out]; rfl, rfl⟩
set_option maxHeartbeats 1000000 in
theorem rvalid_any (s : ByteArray) (hmax : s.size ≤ 140737488351232) (w : World) :
    Calls Tryz.prog 104 #[.string s] w fun e w' => e = .returned (.bool (uval s.data.toList)) ∧ w' = w := by
  obtain ⟨V, hV⟩ : ∃ V, uval (s.data.toList.drop 0) = V := ⟨_, rfl⟩
  have HV := Lib.hid hV
  rw [List.drop_zero] at hV
  rw [hV]
  clear hV
  go_enter Tryz.func104, Tryz.ntmps104
  go_wp2
  go_loop [3] (fun p => ∃ k : Nat, k ≤ s.size ∧ p = .int .i64 (k : Nat) ∧ Hid (uval (s.data.toList.drop k) = V)) (fun p => s.size - (intOf p).toNat)
  case atStart => exact ⟨0, Nat.zero_le _, rfl, HV⟩
  case round =>
    obtain ⟨k, hk, rfl, HU⟩ := hrel
    by_cases hlt : k < s.size
    · have C := fun W => rnext_any s hmax (k : Int) W
      rw [uat_nat] at C
      have hlti : (k : Int) < (s.size : Int) := by omega
      have hne := drop_ne hlt
      have hstep := uval_cons hne
      cases hd : udec (s.data.toList.drop k) with
      | none =>
        rw [nans_none hne hd] at C
        rw [hd] at hstep
        have HF : Hid (V = false) := by rw [← HU.out, hstep]; rfl
        have HC := Lib.hid C; clear C hd hne hstep HU
        go_wp2_with (go_at_call 149; ((with_reducible refine (HC.out _).mono ?_); rintro e w' ⟨rfl, rfl⟩))
        go_ret
        exact ⟨by rw [HF.out]; rfl, rfl⟩
      | some cn =>
        obtain ⟨c, n⟩ := cn
        have hn := udec_some hd
        rw [len_drop] at hn
        rw [nans_some hd] at C
        rw [hd, unn_some hd, drop_drop'] at hstep
        have HF : Hid (uval (s.data.toList.drop (k + n)) = V) := by rw [← HU.out, hstep]; rfl
        obtain ⟨hn1, hn2, hn3, _⟩ := hn
        have hc1 := zint (c := c)
        have HC := Lib.hid C; clear C hd hne hstep HU
        go_wp2_with (go_at_call 149; ((with_reducible refine (HC.out _).mono ?_); rintro e w' ⟨rfl, rfl⟩))
        go_round
        case rel => exact ⟨k + n, by omega, by go_num, HF⟩
        case measure => simp [intOf]; omega
    · obtain rfl : k = s.size := by omega
      have HF : Hid (V = true) := by rw [← HU.out, drop_all (Nat.le_refl _), uval_nil]; rfl
      clear HU
      go_wp2
      go_ret
      exact ⟨by rw [HF.out]; rfl, rfl⟩
/-- A code point's bytes as a text; the empty one of what is none. -/
def uput (c : Int) : ByteArray := if zlng c = 0 then ⟨#[]⟩ else ⟨(uenc c.toNat).toArray⟩
theorem uput_none {c : Int} (h : zlng c = 0) : uput c = ⟨#[]⟩ := by unfold uput; rw [if_pos h]
theorem uput_some {c : Int} (h : zlng c ≠ 0) : uput c = ⟨(uenc c.toNat).toArray⟩ := by unfold uput; rw [if_neg h]
theorem zlng_some {c : Int} (h : zlng c ≠ 0) : 0 ≤ c ∧ c ≤ 1114111 ∧ (c < 55296 ∨ 57343 < c) := by rcases zlng_cases c with h1 | h1 | h1 | h1 | h1 | h1 <;> omega
theorem encode_put {c : Int} (h : zlng c ≠ 0) : Utf8.encode c = uput c := by
  obtain ⟨h0, h1, h2⟩ := zlng_some h
  rw [uput_some h]
  have hv : Utf8.valid c = true := by rw [validRune_eq]; unfold validRune; exact decide_eq_true (by omega)
  unfold Utf8.encode uenc
  simp only [hv, if_true]
  by_cases a1 : c.toNat < 128
  · rw [if_pos a1, if_pos a1]
  by_cases a2 : c.toNat < 2048
  · rw [if_neg a1, if_neg a1, if_pos a2, if_pos a2]
  by_cases a3 : c.toNat < 65536
  · rw [if_neg a1, if_neg a1, if_neg a2, if_neg a2, if_pos a3, if_pos a3]
  · rw [if_neg a1, if_neg a1, if_neg a2, if_neg a2, if_neg a3, if_neg a3]
theorem put_any (c : Int) (w : World) :
    Calls Tryz.prog 181 #[.int .i64 c] w fun e w' => e = .returned (.string (uput c)) ∧ w' = w := by
  have C := fun W => length_any c W
  by_cases h : zlng c = 0
  · rw [uput_none h]
    rw [h] at C
    have HC := Lib.hid C; clear C h
    go_enter Tryz.func181, Tryz.ntmps181
    go_wp2_with (go_at_call 130; ((with_reducible refine (HC.out _).mono ?_); rintro e w' ⟨rfl, rfl⟩))
    go_ret
    exact ⟨rfl, rfl⟩
  · obtain ⟨h0, h1, h2⟩ := zlng_some h
    have he := Lib.hid (encode_put h)
    have hz : ((zlng c : Int) == 0) = false := by rw [beq_eq_false_iff_ne]; omega
    have hw : IntKind.i32.wrap c = c := by simp [IntKind.wrap, IntKind.bits, IntKind.signed]; omega
    clear h h2
    generalize zlng c = L at C hz
    have HC := Lib.hid C; clear C
    go_enter Tryz.func181, Tryz.ntmps181
    go_wp2_with (go_at_call 130; ((with_reducible refine (HC.out _).mono ?_); rintro e w' ⟨rfl, rfl⟩))
    go_ret
    exact ⟨by rw [← he.out]; rfl, rfl⟩
end Go.Proofs.YtocffoemimghhaaGreatDoor
end
