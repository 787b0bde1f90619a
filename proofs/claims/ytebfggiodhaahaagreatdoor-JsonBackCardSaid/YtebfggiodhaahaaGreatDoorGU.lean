/-
  UtfMath UtfA UtfNext UtfRef UtfClone UtfMid, one behind the other: a claim holds at most 60 files.
-/
import Derived.Test.YtebfggiodhaahaaGreatDoorRows
import Derived.WalkKit
import Derived.WalkSpells
import Derived.WalkLawsBesides
import Derived.Lib.Hide
import Derived.LoopTactic
import Derived.Laws.Runes
import Derived.Laws.BitsAllLaws
import Derived.Deep.QuietTactic
import Derived.BigQuiet
import Derived.Lib.BufferWrite
import Derived.Lib.UnsafeStr
import Derived.Laws.MakeOwn
import Derived.Deep.RegionHeld3
section
namespace Go.Proofs.YtebfggiodhaahaaGreatDoor
/-- A first byte's size. -/
def usz (b : Nat) : Nat := if b < 128 then 1 else if b < 192 then 0 else if b < 224 then 2 else if b < 240 then 3 else if b < 248 then 4 else 0
/-- A first byte's uown bits. -/
def uown (b : Nat) : Nat := if b < 128 then b else if b < 192 then 0 else if b < 224 then b - 192 else if b < 240 then b - 224 else if b < 248 then b - 240 else 0
def ucon (b : Nat) : Bool := decide (128 ≤ b ∧ b < 192)
/-- A code point's size; 0 of what is none. -/
def ulng (c : Nat) : Nat := if 1114111 < c ∨ (55296 ≤ c ∧ c ≤ 57343) then 0 else if c < 128 then 1 else if c < 2048 then 2 else if c < 65536 then 3 else 4
def uacc : Nat → Nat → List UInt8 → Option Nat
  | c, 0, _ => some c
  | _, _ + 1, [] => none
  | c, k + 1, b :: r => if ucon b.toNat then uacc (c * 64 + (b.toNat - 128)) k r else none
def udec : List UInt8 → Option (Nat × Nat)
  | [] => none
  | b :: r => if usz b.toNat = 0 then none else
    match uacc (uown b.toNat) (usz b.toNat - 1) r with
    | none => none
    | some c => if ulng c = usz b.toNat then some (c, usz b.toNat) else none
def unc (l : List UInt8) : Int := if l = [] then 0 else match udec l with | some (c, _) => c | none => -1
def unn (l : List UInt8) : Nat := if l = [] then 0 else match udec l with | some (_, n) => n | none => 1

theorem usz_le (b : Nat) : usz b ≤ 4 := by unfold usz; (repeat' split) <;> omega
theorem uacc_len : ∀ (k c : Nat) (l : List UInt8) (d : Nat), uacc c k l = some d → k ≤ l.length
  | 0, _, _, _, _ => Nat.zero_le _
  | _ + 1, _, [], _, h => by simp [uacc] at h
  | k + 1, c, b :: r, d, h => by
    simp only [uacc] at h
    split at h
    · have := uacc_len k _ r d h; simp; omega
    · cases h
theorem uacc_more : ∀ (k c : Nat) (l m : List UInt8) (d : Nat), uacc c k l = some d → uacc c k (l ++ m) = some d
  | 0, _, _, _, _, h => by simpa [uacc] using h
  | _ + 1, _, [], _, _, h => by simp [uacc] at h
  | k + 1, c, b :: r, m, d, h => by
    simp only [uacc, List.cons_append] at h ⊢
    split at h
    · rename_i hc; rw [if_pos hc]; exact uacc_more k _ r m d h
    · cases h
theorem udec_some {l : List UInt8} {c n : Nat} (h : udec l = some (c, n)) : 1 ≤ n ∧ n ≤ 4 ∧ n ≤ l.length ∧ ulng c = n := by
  cases l with
  | nil => simp [udec] at h
  | cons b r =>
    simp only [udec] at h
    split at h
    · cases h
    · rename_i hz
      split at h
      · cases h
      · rename_i d hd
        split at h
        · rename_i hl
          cases h
          have := uacc_len _ _ _ _ hd
          have := usz_le b.toNat
          simp only [List.length_cons]
          omega
        · cases h
theorem udec_more {l : List UInt8} (m : List UInt8) {c n : Nat} (h : udec l = some (c, n)) : udec (l ++ m) = some (c, n) := by
  cases l with
  | nil => simp [udec] at h
  | cons b r =>
    simp only [udec, List.cons_append] at h ⊢
    split at h
    · cases h
    · rename_i hz
      rw [if_neg hz]
      split at h
      · cases h
      · rename_i d hd
        rw [uacc_more _ _ _ m _ hd]
        exact h
theorem unn_pos {l : List UInt8} (h : l ≠ []) : 1 ≤ unn l ∧ unn l ≤ 4 ∧ unn l ≤ l.length := by
  unfold unn
  rw [if_neg h]
  have hl : 1 ≤ l.length := by cases l with | nil => exact absurd rfl h | cons => simp
  split
  · rename_i c n hd; have := udec_some hd; omega
  · omega
theorem unc_none {l : List UInt8} (h : l ≠ []) : unc l = -1 ↔ udec l = none := by
  unfold unc; rw [if_neg h]
  split
  · rename_i c n hd; rw [hd]; constructor
    · intro h; omega
    · intro h; cases h
  · rename_i hd; simp [hd]

/-- All of it is code points. -/
def uval (l : List UInt8) : Bool :=
  if _h : l = [] then true else (udec l).isSome && uval (l.drop (unn l))
termination_by l.length
decreasing_by have := unn_pos _h; simp only [List.length_drop]; omega
def ucnt (l : List UInt8) : Nat :=
  if _h : l = [] then 0 else 1 + ucnt (l.drop (unn l))
termination_by l.length
decreasing_by have := unn_pos _h; simp only [List.length_drop]; omega
/-- The bytes of the first k. -/
def ucut : List UInt8 → Nat → Nat
  | _, 0 => 0
  | l, k + 1 => if l = [] then 0 else unn l + ucut (l.drop (unn l)) k
theorem uval_nil : uval [] = true := by rw [uval]; simp
theorem uval_cons {l : List UInt8} (h : l ≠ []) : uval l = ((udec l).isSome && uval (l.drop (unn l))) := by rw [uval]; simp [h]
theorem unn_some {l : List UInt8} {c n : Nat} (h : udec l = some (c, n)) : unn l = n := by
  unfold unn
  rw [if_neg (by rintro rfl; simp [udec] at h), h]
theorem unc_some {l : List UInt8} {c n : Nat} (h : udec l = some (c, n)) : unc l = c := by
  unfold unc
  rw [if_neg (by rintro rfl; simp [udec] at h), h]
/-- A code point's bytes. -/
def uenc (c : Nat) : List UInt8 :=
  if c < 128 then [UInt8.ofNat c] else if c < 2048 then [UInt8.ofNat (192 + c / 64), UInt8.ofNat (128 + c % 64)]
  else if c < 65536 then [UInt8.ofNat (224 + c / 4096), UInt8.ofNat (128 + c / 64 % 64), UInt8.ofNat (128 + c % 64)]
  else [UInt8.ofNat (240 + c / 262144), UInt8.ofNat (128 + c / 4096 % 64), UInt8.ofNat (128 + c / 64 % 64), UInt8.ofNat (128 + c % 64)]
theorem uenc_len {c : Nat} (h : ulng c ≠ 0) : (uenc c).length = ulng c := by
  unfold ulng at *
  unfold uenc
  split at h
  · omega
  · repeat' split
    all_goals first | rfl | omega
theorem ulng_le (c : Nat) : ulng c ≤ 4 := by unfold ulng; (repeat' split) <;> omega
theorem u8n {n : Nat} (h : n < 256) : (UInt8.ofNat n).toNat = n := by simp; omega
theorem ucon_yes {n : Nat} (h : n < 64) : ucon (128 + n) = true := by unfold ucon; exact decide_eq_true (by omega)
theorem udec_enc {c : Nat} (h : ulng c ≠ 0) (m : List UInt8) : udec (uenc c ++ m) = some (c, ulng c) := by
  have hq : ¬ (1114111 < c ∨ (55296 ≤ c ∧ c ≤ 57343)) := fun q => h (if_pos q)
  by_cases h1 : c < 128
  · have e : ulng c = 1 := by unfold ulng; rw [if_neg hq]; (repeat' split) <;> omega
    have s1 : usz c = 1 := by unfold usz; rw [if_pos h1]
    have o1 : uown c = c := by unfold uown; rw [if_pos h1]
    simp only [uenc, if_pos h1, List.cons_append, List.nil_append, udec, u8n (show c < 256 by omega), s1, o1]
    simp [uacc, e]
  by_cases h2 : c < 2048
  · have e : ulng c = 2 := by unfold ulng; rw [if_neg hq]; (repeat' split) <;> omega
    have s1 : usz (192 + c / 64) = 2 := by unfold usz; (repeat' split) <;> omega
    have o1 : uown (192 + c / 64) = c / 64 := by unfold uown; (repeat' split) <;> omega
    have a : c / 64 * 64 + (128 + c % 64 - 128) = c := by omega
    simp only [uenc, if_neg h1, if_pos h2, List.cons_append, List.nil_append, udec, u8n (show 192 + c / 64 < 256 by omega), u8n (show 128 + c % 64 < 256 by omega), s1, o1, uacc, ucon_yes (show c % 64 < 64 by omega), a]
    simp [e]
  by_cases h3 : c < 65536
  · have e : ulng c = 3 := by unfold ulng; rw [if_neg hq]; (repeat' split) <;> omega
    have s1 : usz (224 + c / 4096) = 3 := by unfold usz; (repeat' split) <;> omega
    have o1 : uown (224 + c / 4096) = c / 4096 := by unfold uown; (repeat' split) <;> omega
    have a : (c / 4096 * 64 + (128 + c / 64 % 64 - 128)) * 64 + (128 + c % 64 - 128) = c := by omega
    simp only [uenc, if_neg h1, if_neg h2, if_pos h3, List.cons_append, List.nil_append, udec, u8n (show 224 + c / 4096 < 256 by omega), u8n (show 128 + c / 64 % 64 < 256 by omega), u8n (show 128 + c % 64 < 256 by omega), s1, o1, uacc, ucon_yes (show c % 64 < 64 by omega), ucon_yes (show c / 64 % 64 < 64 by omega), a]
    simp [e]
  · have hc : c ≤ 1114111 := by unfold ulng at h; split at h <;> omega
    have e : ulng c = 4 := by unfold ulng; rw [if_neg hq]; (repeat' split) <;> omega
    have s1 : usz (240 + c / 262144) = 4 := by unfold usz; (repeat' split) <;> omega
    have o1 : uown (240 + c / 262144) = c / 262144 := by unfold uown; (repeat' split) <;> omega
    have a : ((c / 262144 * 64 + (128 + c / 4096 % 64 - 128)) * 64 + (128 + c / 64 % 64 - 128)) * 64 + (128 + c % 64 - 128) = c := by omega
    simp only [uenc, if_neg h1, if_neg h2, if_neg h3, List.cons_append, List.nil_append, udec, u8n (show 240 + c / 262144 < 256 by omega), u8n (show 128 + c / 4096 % 64 < 256 by omega), u8n (show 128 + c / 64 % 64 < 256 by omega), u8n (show 128 + c % 64 < 256 by omega), s1, o1, uacc, ucon_yes (show c % 64 < 64 by omega), ucon_yes (show c / 64 % 64 < 64 by omega), ucon_yes (show c / 4096 % 64 < 64 by omega), a]
    simp [e]
/-- Code points' bytes, one behind the other. -/
def uencs (cs : List Nat) : List UInt8 := cs.flatMap uenc
end Go.Proofs.YtebfggiodhaahaaGreatDoor
end
section
namespace Go.Proofs.YtebfggiodhaahaaGreatDoor
open Go.RowKit

/-- A code point's size, of any integer. -/
def zlng (c : Int) : Nat := if c < 0 then 0 else ulng c.toNat
theorem zlng_nat (c : Nat) : zlng (c : Int) = ulng c := by unfold zlng; rw [if_neg (by omega), Int.toNat_natCast]
theorem length_none (c : Int) (h : c < 0 ∨ 1114111 < c) (w : World) :
    Calls Tryz.prog 117 #[.int .i64 c] w fun e w' => e = .returned (.int .i64 0) ∧ w' = w := by
  rcases h with h | h
  · go_enter Tryz.func117, Tryz.ntmps117
    go_wp2
    go_ret
    exact ⟨rfl, rfl⟩
  · have h0 : 0 ≤ c := by omega
    go_enter Tryz.func117, Tryz.ntmps117
    go_wp2
    go_ret
    exact ⟨rfl, rfl⟩
theorem length_sur (c : Int) (h0 : 55296 ≤ c) (h1 : c ≤ 57343) (w : World) :
    Calls Tryz.prog 117 #[.int .i64 c] w fun e w' => e = .returned (.int .i64 0) ∧ w' = w := by
  go_enter Tryz.func117, Tryz.ntmps117
  go_wp2
  go_ret
  exact ⟨rfl, rfl⟩
theorem length_1 (c : Int) (h0 : 0 ≤ c) (h1 : c < 128) (w : World) :
    Calls Tryz.prog 117 #[.int .i64 c] w fun e w' => e = .returned (.int .i64 1) ∧ w' = w := by
  go_enter Tryz.func117, Tryz.ntmps117
  go_wp2
  go_ret
  exact ⟨rfl, rfl⟩
theorem length_2 (c : Int) (h0 : 128 ≤ c) (h1 : c < 2048) (w : World) :
    Calls Tryz.prog 117 #[.int .i64 c] w fun e w' => e = .returned (.int .i64 2) ∧ w' = w := by
  go_enter Tryz.func117, Tryz.ntmps117
  go_wp2
  go_ret
  exact ⟨rfl, rfl⟩
theorem length_3 (c : Int) (h0 : 2048 ≤ c) (h1 : c < 65536) (h2 : c < 55296 ∨ 57343 < c) (w : World) :
    Calls Tryz.prog 117 #[.int .i64 c] w fun e w' => e = .returned (.int .i64 3) ∧ w' = w := by
  rcases h2 with h2 | h2
  · go_enter Tryz.func117, Tryz.ntmps117
    go_wp2
    go_ret
    exact ⟨rfl, rfl⟩
  · go_enter Tryz.func117, Tryz.ntmps117
    go_wp2
    go_ret
    exact ⟨rfl, rfl⟩
theorem length_4 (c : Int) (h0 : 65536 ≤ c) (h1 : c ≤ 1114111) (w : World) :
    Calls Tryz.prog 117 #[.int .i64 c] w fun e w' => e = .returned (.int .i64 4) ∧ w' = w := by
  go_enter Tryz.func117, Tryz.ntmps117
  go_wp2
  go_ret
  exact ⟨rfl, rfl⟩
theorem zlng_cases (c : Int) : (zlng c = 0 ∧ (c < 0 ∨ 1114111 < c)) ∨ (zlng c = 0 ∧ 55296 ≤ c ∧ c ≤ 57343) ∨ (zlng c = 1 ∧ 0 ≤ c ∧ c < 128) ∨ (zlng c = 2 ∧ 128 ≤ c ∧ c < 2048) ∨ (zlng c = 3 ∧ 2048 ≤ c ∧ c < 65536 ∧ (c < 55296 ∨ 57343 < c)) ∨ (zlng c = 4 ∧ 65536 ≤ c ∧ c ≤ 1114111) := by
  unfold zlng ulng
  split
  · omega
  · split
    · omega
    · split
      · omega
      · split
        · omega
        · split <;> omega
theorem length_any (c : Int) (w : World) :
    Calls Tryz.prog 117 #[.int .i64 c] w fun e w' => e = .returned (.int .i64 (zlng c : Nat)) ∧ w' = w := by
  rcases zlng_cases c with ⟨e, h⟩ | ⟨e, h0, h1⟩ | ⟨e, h0, h1⟩ | ⟨e, h0, h1⟩ | ⟨e, h0, h1, h2⟩ | ⟨e, h0, h1⟩ <;> rw [e]
  · exact length_none c h w
  · exact length_sur c h0 h1 w
  · exact length_1 c h0 h1 w
  · exact length_2 c h0 h1 w
  · exact length_3 c h0 h1 h2 w
  · exact length_4 c h0 h1 w
theorem and_u8 {b m : Nat} (hb : b < 256) (hm : m < 256) : bits .and .u8 (b : Int) (m : Int) = ((b &&& m : Nat) : Int) := u8_and_nat b m hb hm
theorem begun_1 (b : Nat) (h : b < 128) (w : World) :
    Calls Tryz.prog 115 #[.int .u8 (b : Int)] w fun e w' => e = .returned (.tuple #[.int .i32 (b : Int), .int .i64 1]) ∧ w' = w := by
  have w1 : IntKind.i32.wrap (b : Int) = b := by simp [IntKind.wrap, IntKind.bits, IntKind.signed]; omega
  go_enter Tryz.func115, Tryz.ntmps115
  go_wp2
  go_ret2
  exact ⟨rfl, rfl⟩
theorem begun_no (b : Nat) (h : (128 ≤ b ∧ b < 192) ∨ (248 ≤ b ∧ b < 256)) (w : World) :
    Calls Tryz.prog 115 #[.int .u8 (b : Int)] w fun e w' => e = .returned (.tuple #[.int .i32 0, .int .i64 0]) ∧ w' = w := by
  rcases h with ⟨h, h2⟩ | ⟨h, h2⟩
  · go_enter Tryz.func115, Tryz.ntmps115
    go_wp2
    go_ret2
    exact ⟨rfl, rfl⟩
  · go_enter Tryz.func115, Tryz.ntmps115
    go_wp2
    go_ret2
    exact ⟨rfl, rfl⟩
theorem begun_more (b c m : Nat) (n : Int) (h : (192 ≤ b ∧ b < 224 ∧ n = 2 ∧ m = 31) ∨ (224 ≤ b ∧ b < 240 ∧ n = 3 ∧ m = 15) ∨ (240 ≤ b ∧ b < 248 ∧ n = 4 ∧ m = 7)) (hc : bits .and .u8 (b : Int) (m : Int) = (c : Int)) (hc2 : c < 256) (w : World) :
    Calls Tryz.prog 115 #[.int .u8 (b : Int)] w fun e w' => e = .returned (.tuple #[.int .i32 (c : Int), .int .i64 n]) ∧ w' = w := by
  have w1 : IntKind.i32.wrap (c : Int) = c := by simp [IntKind.wrap, IntKind.bits, IntKind.signed]; omega
  rcases h with ⟨h1, h2, rfl, rfl⟩ | ⟨h1, h2, rfl, rfl⟩ | ⟨h1, h2, rfl, rfl⟩
  · have hc' : bits .and .u8 (b : Int) 31 = (c : Int) := hc
    clear hc
    go_enter Tryz.func115, Tryz.ntmps115
    go_wp2
    go_ret2
    exact ⟨rfl, rfl⟩
  · have hc' : bits .and .u8 (b : Int) 15 = (c : Int) := hc
    clear hc
    go_enter Tryz.func115, Tryz.ntmps115
    go_wp2
    go_ret2
    exact ⟨rfl, rfl⟩
  · have hc' : bits .and .u8 (b : Int) 7 = (c : Int) := hc
    clear hc
    go_enter Tryz.func115, Tryz.ntmps115
    go_wp2
    go_ret2
    exact ⟨rfl, rfl⟩
theorem begun_any (b : Nat) (hb : b < 256) (w : World) :
    Calls Tryz.prog 115 #[.int .u8 (b : Int)] w fun e w' => e = .returned (.tuple #[.int .i32 (uown b : Nat), .int .i64 (usz b : Nat)]) ∧ w' = w := by
  unfold uown usz
  by_cases h1 : b < 128
  · rw [if_pos h1, if_pos h1]; exact begun_1 b h1 w
  by_cases h2 : b < 192
  · rw [if_neg h1, if_neg h1, if_pos h2, if_pos h2]; exact begun_no b (by omega) w
  by_cases h3 : b < 224
  · rw [if_neg h1, if_neg h1, if_neg h2, if_neg h2, if_pos h3, if_pos h3]
    exact begun_more b _ 31 2 (by omega) (by rw [and_u8 hb (by decide), nat_mask5]; omega) (by omega) w
  by_cases h4 : b < 240
  · rw [if_neg h1, if_neg h1, if_neg h2, if_neg h2, if_neg h3, if_neg h3, if_pos h4, if_pos h4]
    exact begun_more b _ 15 3 (by omega) (by rw [and_u8 hb (by decide), nat_mask4]; omega) (by omega) w
  by_cases h5 : b < 248
  · rw [if_neg h1, if_neg h1, if_neg h2, if_neg h2, if_neg h3, if_neg h3, if_neg h4, if_neg h4, if_pos h5, if_pos h5]
    exact begun_more b _ 7 4 (by omega) (by rw [and_u8 hb (by decide), nat_mask3]; omega) (by omega) w
  · rw [if_neg h1, if_neg h1, if_neg h2, if_neg h2, if_neg h3, if_neg h3, if_neg h4, if_neg h4, if_neg h5, if_neg h5]
    exact begun_no b (by omega) w
theorem gone_any (b : Nat) (hb : b < 256) (w : World) :
    Calls Tryz.prog 116 #[.int .u8 (b : Int)] w fun e w' => e = .returned (.tuple #[.int .i32 ((b % 64 : Nat) : Int), .bool (ucon b)]) ∧ w' = w := by
  obtain ⟨c, hc⟩ : ∃ c, c = b % 64 := ⟨_, rfl⟩
  have h1 : bits .and .u8 (b : Int) 63 = (c : Int) := by
    have := and_u8 (m := 63) hb (by decide)
    rw [nat_mask6, ← hc] at this
    exact this
  rw [← hc]
  have w1 : IntKind.i32.wrap (c : Int) = c := by simp [IntKind.wrap, IntKind.bits, IntKind.signed]; omega
  have e : ucon b = ((b : Int) / 64 == 2) := by
    unfold ucon
    rw [Bool.eq_iff_iff, decide_eq_true_iff, beq_iff_eq]
    omega
  rw [e]
  clear e hc
  go_enter Tryz.func116, Tryz.ntmps116
  go_wp2
  go_ret2
  exact ⟨rfl, rfl⟩
end Go.Proofs.YtebfggiodhaahaaGreatDoor
end
section
namespace Go.Proofs.YtebfggiodhaahaaGreatDoor
open Go.RowKit

theorem i32_or_nat (a b : Nat) (ha : a < 1073741824) (hb : b < 1073741824) : bits .or .i32 (a : Int) (b : Int) = ((a ||| b : Nat) : Int) := by
  have hx : a ||| b < 2 ^ 30 := Nat.or_lt_two_pow (by omega) (by omega)
  show IntKind.i32.wrap ((BitVec.ofInt 32 (a : Int) ||| BitVec.ofInt 32 (b : Int)).toNat : Int) = _
  rw [BitVec.toNat_or, BitVec.ofInt_natCast, BitVec.ofInt_natCast, BitVec.toNat_ofNat, BitVec.toNat_ofNat, Nat.mod_eq_of_lt (show a < 2 ^ 32 by omega), Nat.mod_eq_of_lt (show b < 2 ^ 32 by omega)]
  simp [IntKind.wrap, IntKind.bits, IntKind.signed]
  omega
theorem join6 {m x : Nat} (hm : m < 524288) (hx : x < 64) : bits .or .i32 ((m : Int) * 64) (x : Int) = ((m * 64 + x : Nat) : Int) := by
  have h := i32_or_nat (m * 64) x (by omega) (by omega)
  rw [nat_join 6 (m * 64) x (by omega) (by omega)] at h
  rw [← h]
  congr 1

/-- How great what has been read can be. -/
def mok (k m : Nat) : Prop := (k = 1 ∧ m < 128) ∨ (k = 2 ∧ m < 8192) ∨ (k = 3 ∧ m < 524288) ∨ (k = 4 ∧ m < 33554432)
theorem mok_step {k m x : Nat} (h : mok k m) (hk : k < 4) (hx : x < 64) : mok (k + 1) (m * 64 + x) := by unfold mok at *; omega
theorem mok_lt {k m : Nat} (h : mok k m) (hk : k < 4) : m < 524288 := by unfold mok at h; omega
theorem mok_lt4 {k m : Nat} (h : mok k m) : m < 33554432 := by unfold mok at h; omega
/-- What Next answers of what was read. -/
def nres (q : Option Nat) (n : Nat) : Value :=
  match q with
  | none => .tuple #[.int .i64 (-1), .int .i64 1]
  | some c => if ulng c = n then .tuple #[.int .i64 (c : Nat), .int .i64 (n : Nat)] else .tuple #[.int .i64 (-1), .int .i64 1]
theorem nres_eq {c n : Nat} (h : ulng c = n) : nres (some c) n = .tuple #[.int .i64 (c : Nat), .int .i64 (n : Nat)] := by show (if ulng c = n then _ else _) = _; rw [if_pos h]
theorem nres_ne {c n : Nat} (h : ¬ ulng c = n) : nres (some c) n = .tuple #[.int .i64 (-1), .int .i64 1] := by show (if ulng c = n then _ else _) = _; rw [if_neg h]
theorem nres_none (n : Nat) : nres none n = .tuple #[.int .i64 (-1), .int .i64 1] := rfl
theorem drop_cons (s : ByteArray) (k : Nat) (h : k < s.size) : s.data.toList.drop k = s[k] :: s.data.toList.drop (k + 1) := by
  rw [List.drop_eq_getElem_cons (by simpa using h)]; rfl

theorem next_out (s : ByteArray) (at' : Int) (h : at' < 0 ∨ (s.size : Int) ≤ at') (w : World) :
    Calls Tryz.prog 71 #[.string s, .int .i64 at'] w fun e w' => e = .returned (.tuple #[.int .i64 0, .int .i64 0]) ∧ w' = w := by
  rcases h with h | h
  · go_enter Tryz.func71, Tryz.ntmps71
    go_wp2
    go_ret2
    exact ⟨rfl, rfl⟩
  · have h0 : 0 ≤ at' := by omega
    go_enter Tryz.func71, Tryz.ntmps71
    go_wp2
    go_ret2
    exact ⟨rfl, rfl⟩
theorem next_bad (s : ByteArray) (p n o : Nat) (hp : p < s.size) (_hmax : s.size ≤ 140737488351232) (hn : n = 0 ∨ (s.size < p + n ∧ n ≤ 4)) (w : World)
    (k1 : ∀ W, Calls Tryz.prog 115 #[.int .u8 (s[p].toNat : Int)] W fun e w' => e = .returned (.tuple #[.int .i32 (o : Int), .int .i64 (n : Int)]) ∧ w' = W) :
    Calls Tryz.prog 71 #[.string s, .int .i64 (p : Int)] w fun e w' => e = .returned (.tuple #[.int .i64 (-1), .int .i64 1]) ∧ w' = w := by
  have K1 := Lib.hid k1; clear k1
  have hp1 : (p : Int) < (s.size : Int) := by omega
  rcases hn with rfl | ⟨hn, hn4⟩
  · go_enter Tryz.func71, Tryz.ntmps71
    go_wp2_with (go_at_call 115; ((with_reducible refine (K1.out _).mono ?_); rintro e w' ⟨rfl, rfl⟩))
    go_ret2
    exact ⟨rfl, rfl⟩
  · have hn0 : 1 ≤ n := by omega
    have hnz : ((n : Int) == 0) = false := by rw [beq_eq_false_iff_ne]; omega
    have hgt : (s.size : Int) - p < (n : Int) := by omega
    go_enter Tryz.func71, Tryz.ntmps71
    go_wp2_with (go_at_call 115; ((with_reducible refine (K1.out _).mono ?_); rintro e w' ⟨rfl, rfl⟩))
    go_ret2
    exact ⟨rfl, rfl⟩
set_option maxHeartbeats 1000000 in
theorem next_loop (s : ByteArray) (p n o : Nat) (q : Option Nat) (hn1 : 1 ≤ n) (hn4 : n ≤ 4) (hp : p < s.size) (hpn : p + n ≤ s.size) (hmax : s.size ≤ 140737488351232) (ho : o < 128) (hq : uacc o (n - 1) (s.data.toList.drop (p + 1)) = q) (w : World)
    (k1 : ∀ W, Calls Tryz.prog 115 #[.int .u8 (s[p].toNat : Int)] W fun e w' => e = .returned (.tuple #[.int .i32 (o : Int), .int .i64 (n : Int)]) ∧ w' = W) :
    Calls Tryz.prog 71 #[.string s, .int .i64 (p : Int)] w fun e w' => e = .returned (nres q n) ∧ w' = w := by
  have K1 := Lib.hid k1; have HQ := Lib.hid hq; clear k1 hq
  have hp1 : (p : Int) < (s.size : Int) := by omega
  have hnz : ((n : Int) == 0) = false := by rw [beq_eq_false_iff_ne]; omega
  have hgt : (n : Int) ≤ (s.size : Int) - p := by omega
  go_enter Tryz.func71, Tryz.ntmps71
  go_wp2_with (go_at_call 115; ((with_reducible refine (K1.out _).mono ?_); rintro e w' ⟨rfl, rfl⟩))
  go_loop [6, 8] (fun c i => ∃ k m : Nat, 1 ≤ k ∧ k ≤ n ∧ c = .int .i32 (m : Nat) ∧ i = .int .i64 (k : Nat) ∧ mok k m ∧ Hid (uacc m (n - k) (s.data.toList.drop (p + k)) = q)) (fun _ i => n - (intOf i).toNat)
  case atStart => exact ⟨1, o, Nat.le_refl _, hn1, rfl, rfl, Or.inl ⟨rfl, ho⟩, HQ⟩
  case round =>
    obtain ⟨k, m, hk1, hk2, rfl, rfl, hm, HU⟩ := hrel
    have hm4 := mok_lt4 hm
    by_cases hlt : k < n
    · have hpk : p + k < s.size := by omega
      have hdrop := drop_cons s (p + k) hpk
      have HU2 : Hid (uacc m (n - k) (s[p + k] :: s.data.toList.drop (p + k + 1)) = q) := by rw [← hdrop]; exact HU
      clear hdrop HU
      have hm3 := mok_lt hm (by omega)
      have hb : s[p + k].toNat < 256 := UInt8.toNat_lt _
      have hi0 : (0 : Int) ≤ (p : Int) + k := by omega
      have hi1 : (p : Int) + k < (s.size : Int) := by omega
      have hlti : (k : Int) < (n : Int) := by omega
      cases hc : ucon s[p + k].toNat with
      | false =>
        have C := fun W => gone_any s[p + k].toNat hb W
        rw [hc] at C
        have HC := Lib.hid C; clear C
        have HQ2 : Hid (q = none) := by
          have := HU2.out
          rw [show n - k = (n - k - 1) + 1 from by omega] at this
          simp only [uacc, hc] at this
          exact this.symm
        clear HU2 hc
        go_wp2_with (go_at_call 116; ((with_reducible refine (HC.out _).mono ?_); rintro e w' ⟨rfl, rfl⟩))
        go_ret2
        exact ⟨by rw [HQ2.out]; rfl, rfl⟩
      | true =>
        have C := fun W => gone_any s[p + k].toNat hb W
        rw [hc] at C
        have hb2 : 128 ≤ s[p + k].toNat ∧ s[p + k].toNat < 192 := by unfold ucon at hc; exact of_decide_eq_true hc
        have hx : s[p + k].toNat % 64 = s[p + k].toNat - 128 := by omega
        have HU3 : Hid (uacc (m * 64 + s[p + k].toNat % 64) (n - (k + 1)) (s.data.toList.drop (p + (k + 1))) = q) := by
          have := HU2.out
          rw [show n - k = (n - (k + 1)) + 1 from by omega] at this
          simp only [uacc, hc, if_true] at this
          rw [hx]
          exact this
        have hx64 : s[p + k].toNat % 64 < 64 := by omega
        clear HU2 hc hb2 hx
        generalize s[p + k].toNat % 64 = x at C HU3 hx64
        have HC := Lib.hid C; clear C
        have hor := join6 hm3 hx64
        go_wp2_with (go_at_call 116; ((with_reducible refine (HC.out _).mono ?_); rintro e w' ⟨rfl, rfl⟩))
        go_round
        case rel => exact ⟨k + 1, m * 64 + x, by omega, by omega, rfl, by go_num, mok_step hm (by omega) hx64, HU3⟩
        case measure => simp [intOf]; omega
    · obtain rfl : k = n := by omega
      have HQ2 : Hid (q = some m) := by
        have := HU.out
        rw [Nat.sub_self] at this
        simp only [uacc] at this
        exact this.symm
      clear HU
      have C := fun W => length_any (m : Int) W
      rw [zlng_nat] at C
      have hl4 := ulng_le m
      by_cases he : ulng m = k
      · rw [he] at C
        have HE := Lib.hid (nres_eq he)
        have HC := Lib.hid C; clear C he hl4
        go_wp2_with (go_at_call 117; ((with_reducible refine (HC.out _).mono ?_); rintro e w' ⟨rfl, rfl⟩))
        go_ret2
        exact ⟨by rw [HQ2.out, HE.out]; rfl, rfl⟩
      · have HE := Lib.hid (nres_ne he)
        have hne : ((ulng m : Int) != (k : Int)) = true := by rw [bne_iff_ne]; omega
        have HC := Lib.hid C; clear C he
        generalize ulng m = L at *
        go_wp2_with (go_at_call 117; ((with_reducible refine (HC.out _).mono ?_); rintro e w' ⟨rfl, rfl⟩))
        go_ret2
        exact ⟨by rw [HQ2.out, HE.out]; rfl, rfl⟩
/-- What stands at a place. -/
def uat (s : ByteArray) (p : Int) : List UInt8 := if p < 0 then [] else s.data.toList.drop p.toNat
theorem uat_nat (s : ByteArray) (p : Nat) : uat s (p : Int) = s.data.toList.drop p := by unfold uat; rw [if_neg (by omega), Int.toNat_natCast]
theorem uat_out {s : ByteArray} {p : Int} (h : p < 0 ∨ (s.size : Int) ≤ p) : uat s p = [] := by
  unfold uat
  split
  · rfl
  · exact List.drop_of_length_le (by rw [Array.length_toList]; show s.size ≤ p.toNat; omega)
/-- What a Next answers, in all ways. -/
def nans (l : List UInt8) : Value := .tuple #[.int .i64 (unc l), .int .i64 (unn l : Nat)]
theorem nans_none {l : List UInt8} (h : l ≠ []) (hd : udec l = none) : nans l = .tuple #[.int .i64 (-1), .int .i64 1] := by
  unfold nans unc unn
  rw [if_neg h, if_neg h, hd]
  rfl
theorem nans_res {b : UInt8} {r : List UInt8} (h : usz b.toNat ≠ 0) : nans (b :: r) = nres (uacc (uown b.toNat) (usz b.toNat - 1) r) (usz b.toNat) := by
  unfold nans unc unn
  rw [if_neg (by simp), if_neg (by simp)]
  simp only [udec, if_neg h]
  cases uacc (uown b.toNat) (usz b.toNat - 1) r with
  | none => rfl
  | some c =>
    simp only
    by_cases he : ulng c = usz b.toNat
    · rw [nres_eq he, if_pos he]
    · rw [nres_ne he, if_neg he]; rfl
theorem next_any (s : ByteArray) (hmax : s.size ≤ 140737488351232) (p : Int) (w : World) :
    Calls Tryz.prog 71 #[.string s, .int .i64 p] w fun e w' => e = .returned (nans (uat s p)) ∧ w' = w := by
  by_cases hout : p < 0 ∨ (s.size : Int) ≤ p
  · rw [uat_out hout]; exact next_out s p hout w
  · obtain ⟨p, rfl⟩ := Int.eq_ofNat_of_zero_le (show 0 ≤ p by omega)
    have hp : p < s.size := by omega
    rw [uat_nat, drop_cons s p hp]
    have hb : s[p].toNat < 256 := UInt8.toNat_lt _
    have C := fun W => begun_any s[p].toNat hb W
    have h4 := usz_le s[p].toNat
    by_cases h0 : usz s[p].toNat = 0
    · rw [nans_none (by simp) (by simp [udec, h0])]
      exact next_bad s p _ _ hp hmax (Or.inl h0) w C
    · by_cases hl : p + usz s[p].toNat ≤ s.size
      · rw [nans_res h0]
        exact next_loop s p _ _ _ (by omega) h4 hp hl hmax (by unfold uown; (repeat' split) <;> omega) rfl w C
      · have hd : uacc (uown s[p].toNat) (usz s[p].toNat - 1) (s.data.toList.drop (p + 1)) = none := by
          cases hu : uacc (uown s[p].toNat) (usz s[p].toNat - 1) (s.data.toList.drop (p + 1)) with
          | none => rfl
          | some d =>
            have := uacc_len _ _ _ _ hu
            rw [List.length_drop, Array.length_toList, show s.data.size = s.size from rfl] at this
            omega
        rw [nans_res h0, hd, nres_none]
        exact next_bad s p _ _ hp hmax (Or.inr ⟨by omega, h4⟩) w C
end Go.Proofs.YtebfggiodhaahaaGreatDoor
end
section
namespace Go.Proofs.YtebfggiodhaahaaGreatDoor
open Go.RowKit

/-- How great what has been read can be, by the size that the first byte told. -/
def mok2 (n k m : Nat) : Prop := (n = 2 ∧ ((k = 1 ∧ m < 32) ∨ (k = 2 ∧ m < 2048))) ∨ (n = 3 ∧ ((k = 1 ∧ m < 16) ∨ (k = 2 ∧ m < 1024) ∨ (k = 3 ∧ m < 65536))) ∨ (n = 4 ∧ ((k = 1 ∧ m < 8) ∨ (k = 2 ∧ m < 512) ∨ (k = 3 ∧ m < 32768) ∨ (k = 4 ∧ m < 2097152)))
end Go.Proofs.YtebfggiodhaahaaGreatDoor
end
section
namespace Go.Proofs.YtebfggiodhaahaaGreatDoor
open Go.RowKit

end Go.Proofs.YtebfggiodhaahaaGreatDoor
end
section
namespace Go.Proofs.YtebfggiodhaahaaGreatDoor
open Go.RowKit

theorem nans_some {l : List UInt8} {c n : Nat} (h : udec l = some (c, n)) : nans l = .tuple #[.int .i64 (c : Nat), .int .i64 (n : Nat)] := by
  unfold nans
  rw [unc_some h, unn_some h]
theorem drop_ne {s : ByteArray} {k : Nat} (h : k < s.size) : s.data.toList.drop k ≠ [] := by rw [drop_cons s k h]; simp
theorem drop_all {s : ByteArray} {k : Nat} (h : s.size ≤ k) : s.data.toList.drop k = [] := List.drop_of_length_le (by rw [Array.length_toList]; exact h)
theorem len_drop (s : ByteArray) (k : Nat) : (s.data.toList.drop k).length = s.size - k := by rw [List.length_drop, Array.length_toList]; rfl
theorem drop_drop' (s : ByteArray) (k n : Nat) : (s.data.toList.drop k).drop n = s.data.toList.drop (k + n) := by rw [List.drop_drop]
theorem zint {c : Nat} : ((c : Int) == -1) = false := by rw [beq_eq_false_iff_ne]; omega
set_option maxHeartbeats 1000000 in
theorem valid_any (s : ByteArray) (hmax : s.size ≤ 140737488351232) (w : World) :
    Calls Tryz.prog 52 #[.string s] w fun e w' => e = .returned (.bool (uval s.data.toList)) ∧ w' = w := by
  obtain ⟨V, hV⟩ : ∃ V, uval (s.data.toList.drop 0) = V := ⟨_, rfl⟩
  have HV := Lib.hid hV
  rw [List.drop_zero] at hV
  rw [hV]
  clear hV
  go_enter Tryz.func52, Tryz.ntmps52
  go_wp2
  go_loop [3] (fun p => ∃ k : Nat, k ≤ s.size ∧ p = .int .i64 (k : Nat) ∧ Hid (uval (s.data.toList.drop k) = V)) (fun p => s.size - (intOf p).toNat)
  case atStart => exact ⟨0, Nat.zero_le _, rfl, HV⟩
  case round =>
    obtain ⟨k, hk, rfl, HU⟩ := hrel
    by_cases hlt : k < s.size
    · have C := fun W => next_any s hmax (k : Int) W
      rw [uat_nat] at C
      have hlti : (k : Int) < (s.size : Int) := by omega
      have hne := drop_ne hlt
      have hstep := uval_cons hne
      cases hd : udec (s.data.toList.drop k) with
      | none =>
        rw [nans_none hne hd] at C
        rw [hd] at hstep
        have HF : Hid (V = false) := by rw [← HU.out, hstep]; rfl
        have HC := Lib.hid C; clear C hd hne hstep HU
        go_wp2_with (go_at_call 71; ((with_reducible refine (HC.out _).mono ?_); rintro e w' ⟨rfl, rfl⟩))
        go_ret
        exact ⟨by rw [HF.out]; rfl, rfl⟩
      | some cn =>
        obtain ⟨c, n⟩ := cn
        have hn := udec_some hd
        rw [len_drop] at hn
        rw [nans_some hd] at C
        rw [hd, unn_some hd, drop_drop'] at hstep
        have HF : Hid (uval (s.data.toList.drop (k + n)) = V) := by rw [← HU.out, hstep]; rfl
        obtain ⟨hn1, hn2, hn3, _⟩ := hn
        have hc1 := zint (c := c)
        have HC := Lib.hid C; clear C hd hne hstep HU
        go_wp2_with (go_at_call 71; ((with_reducible refine (HC.out _).mono ?_); rintro e w' ⟨rfl, rfl⟩))
        go_round
        case rel => exact ⟨k + n, by omega, by go_num, HF⟩
        case measure => simp [intOf]; omega
    · obtain rfl : k = s.size := by omega
      have HF : Hid (V = true) := by rw [← HU.out, drop_all (Nat.le_refl _), uval_nil]; rfl
      clear HU
      go_wp2
      go_ret
      exact ⟨by rw [HF.out]; rfl, rfl⟩
/-- A code point's bytes as a text; the empty one of what is none. -/
def uput (c : Int) : ByteArray := if zlng c = 0 then ⟨#[]⟩ else ⟨(uenc c.toNat).toArray⟩
theorem uput_none {c : Int} (h : zlng c = 0) : uput c = ⟨#[]⟩ := by unfold uput; rw [if_pos h]
theorem uput_some {c : Int} (h : zlng c ≠ 0) : uput c = ⟨(uenc c.toNat).toArray⟩ := by unfold uput; rw [if_neg h]
theorem zlng_some {c : Int} (h : zlng c ≠ 0) : 0 ≤ c ∧ c ≤ 1114111 ∧ (c < 55296 ∨ 57343 < c) := by rcases zlng_cases c with h1 | h1 | h1 | h1 | h1 | h1 <;> omega
theorem encode_put {c : Int} (h : zlng c ≠ 0) : Utf8.encode c = uput c := by
  obtain ⟨h0, h1, h2⟩ := zlng_some h
  rw [uput_some h]
  have hv : Utf8.valid c = true := by rw [validRune_eq]; unfold validRune; exact decide_eq_true (by omega)
  unfold Utf8.encode uenc
  simp only [hv, if_true]
  by_cases a1 : c.toNat < 128
  · rw [if_pos a1, if_pos a1]
  by_cases a2 : c.toNat < 2048
  · rw [if_neg a1, if_neg a1, if_pos a2, if_pos a2]
  by_cases a3 : c.toNat < 65536
  · rw [if_neg a1, if_neg a1, if_neg a2, if_neg a2, if_pos a3, if_pos a3]
  · rw [if_neg a1, if_neg a1, if_neg a2, if_neg a2, if_neg a3, if_neg a3]
theorem put_any (c : Int) (w : World) :
    Calls Tryz.prog 161 #[.int .i64 c] w fun e w' => e = .returned (.string (uput c)) ∧ w' = w := by
  have C := fun W => length_any c W
  by_cases h : zlng c = 0
  · rw [uput_none h]
    rw [h] at C
    have HC := Lib.hid C; clear C h
    go_enter Tryz.func161, Tryz.ntmps161
    go_wp2_with (go_at_call 117; ((with_reducible refine (HC.out _).mono ?_); rintro e w' ⟨rfl, rfl⟩))
    go_ret
    exact ⟨rfl, rfl⟩
  · obtain ⟨h0, h1, h2⟩ := zlng_some h
    have he := Lib.hid (encode_put h)
    have hz : ((zlng c : Int) == 0) = false := by rw [beq_eq_false_iff_ne]; omega
    have hw : IntKind.i32.wrap c = c := by simp [IntKind.wrap, IntKind.bits, IntKind.signed]; omega
    clear h h2
    generalize zlng c = L at C hz
    have HC := Lib.hid C; clear C
    go_enter Tryz.func161, Tryz.ntmps161
    go_wp2_with (go_at_call 117; ((with_reducible refine (HC.out _).mono ?_); rintro e w' ⟨rfl, rfl⟩))
    go_ret
    exact ⟨by rw [← he.out]; rfl, rfl⟩
end Go.Proofs.YtebfggiodhaahaaGreatDoor
end
