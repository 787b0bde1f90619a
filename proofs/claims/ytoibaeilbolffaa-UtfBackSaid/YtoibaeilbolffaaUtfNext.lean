/-
  utf.Next: for every text of at most 2^47 bytes, every place.
-/
import Derived.Test.YtoibaeilbolffaaUtfA
namespace Go.Proofs.Ytoibaeilbolffaa
open Go.RowKit

theorem i32_or_nat (a b : Nat) (ha : a < 1073741824) (hb : b < 1073741824) : bits .or .i32 (a : Int) (b : Int) = ((a ||| b : Nat) : Int) := by
  have hx : a ||| b < 2 ^ 30 := Nat.or_lt_two_pow (by omega) (by omega)
  show IntKind.i32.wrap ((BitVec.ofInt 32 (a : Int) ||| BitVec.ofInt 32 (b : Int)).toNat : Int) = _
  rw [BitVec.toNat_or, BitVec.ofInt_natCast, BitVec.ofInt_natCast, BitVec.toNat_ofNat, BitVec.toNat_ofNat, Nat.mod_eq_of_lt (show a < 2 ^ 32 by omega), Nat.mod_eq_of_lt (show b < 2 ^ 32 by omega)]
  simp [IntKind.wrap, IntKind.bits, IntKind.signed]
  omega
theorem join6 {m x : Nat} (hm : m < 524288) (hx : x < 64) : bits .or .i32 ((m : Int) * 64) (x : Int) = ((m * 64 + x : Nat) : Int) := by
  have h := i32_or_nat (m * 64) x (by omega) (by omega)
  rw [nat_join 6 (m * 64) x (by omega) (by omega)] at h
  rw [← h]
  congr 1

/-- How great what has been read can be. -/
def mok (k m : Nat) : Prop := (k = 1 ∧ m < 128) ∨ (k = 2 ∧ m < 8192) ∨ (k = 3 ∧ m < 524288) ∨ (k = 4 ∧ m < 33554432)
theorem mok_step {k m x : Nat} (h : mok k m) (hk : k < 4) (hx : x < 64) : mok (k + 1) (m * 64 + x) := by unfold mok at *; omega
theorem mok_lt {k m : Nat} (h : mok k m) (hk : k < 4) : m < 524288 := by unfold mok at h; omega
theorem mok_lt4 {k m : Nat} (h : mok k m) : m < 33554432 := by unfold mok at h; omega
/-- What Next answers of what was read. -/
def nres (q : Option Nat) (n : Nat) : Value :=
  match q with
  | none => .tuple #[.int .i64 (-1), .int .i64 1]
  | some c => if ulng c = n then .tuple #[.int .i64 (c : Nat), .int .i64 (n : Nat)] else .tuple #[.int .i64 (-1), .int .i64 1]
theorem nres_eq {c n : Nat} (h : ulng c = n) : nres (some c) n = .tuple #[.int .i64 (c : Nat), .int .i64 (n : Nat)] := by show (if ulng c = n then _ else _) = _; rw [if_pos h]
theorem nres_ne {c n : Nat} (h : ¬ ulng c = n) : nres (some c) n = .tuple #[.int .i64 (-1), .int .i64 1] := by show (if ulng c = n then _ else _) = _; rw [if_neg h]
theorem nres_none (n : Nat) : nres none n = .tuple #[.int .i64 (-1), .int .i64 1] := rfl
theorem drop_cons (s : ByteArray) (k : Nat) (h : k < s.size) : s.data.toList.drop k = s[k] :: s.data.toList.drop (k + 1) := by
  rw [List.drop_eq_getElem_cons (by simpa using h)]; rfl

theorem next_out (s : ByteArray) (at' : Int) (h : at' < 0 ∨ (s.size : Int) ≤ at') (w : World) :
    Calls Try.prog 9 #[.string s, .int .i64 at'] w fun e w' => e = .returned (.tuple #[.int .i64 0, .int .i64 0]) ∧ w' = w := by
  rcases h with h | h
  · go_enter Try.func9, Try.ntmps9
    go_wp2
    go_ret2
    exact ⟨rfl, rfl⟩
  · have h0 : 0 ≤ at' := by omega
    go_enter Try.func9, Try.ntmps9
    go_wp2
    go_ret2
    exact ⟨rfl, rfl⟩
theorem next_bad (s : ByteArray) (p n o : Nat) (hp : p < s.size) (_hmax : s.size ≤ 140737488351232) (hn : n = 0 ∨ (s.size < p + n ∧ n ≤ 4)) (w : World)
    (k1 : ∀ W, Calls Try.prog 19 #[.int .u8 (s[p].toNat : Int)] W fun e w' => e = .returned (.tuple #[.int .i32 (o : Int), .int .i64 (n : Int)]) ∧ w' = W) :
    Calls Try.prog 9 #[.string s, .int .i64 (p : Int)] w fun e w' => e = .returned (.tuple #[.int .i64 (-1), .int .i64 1]) ∧ w' = w := by
  have K1 := Lib.hid k1; clear k1
  have hp1 : (p : Int) < (s.size : Int) := by omega
  rcases hn with rfl | ⟨hn, hn4⟩
  · go_enter Try.func9, Try.ntmps9
    go_wp2_with (go_at_call 19; ((with_reducible refine (K1.out _).mono ?_); rintro e w' ⟨rfl, rfl⟩))
    go_ret2
    exact ⟨rfl, rfl⟩
  · have hn0 : 1 ≤ n := by omega
    have hnz : ((n : Int) == 0) = false := by rw [beq_eq_false_iff_ne]; omega
    have hgt : (s.size : Int) - p < (n : Int) := by omega
    go_enter Try.func9, Try.ntmps9
    go_wp2_with (go_at_call 19; ((with_reducible refine (K1.out _).mono ?_); rintro e w' ⟨rfl, rfl⟩))
    go_ret2
    exact ⟨rfl, rfl⟩
set_option maxHeartbeats 1000000 in
theorem next_loop (s : ByteArray) (p n o : Nat) (q : Option Nat) (hn1 : 1 ≤ n) (hn4 : n ≤ 4) (hp : p < s.size) (hpn : p + n ≤ s.size) (hmax : s.size ≤ 140737488351232) (ho : o < 128) (hq : uacc o (n - 1) (s.data.toList.drop (p + 1)) = q) (w : World)
    (k1 : ∀ W, Calls Try.prog 19 #[.int .u8 (s[p].toNat : Int)] W fun e w' => e = .returned (.tuple #[.int .i32 (o : Int), .int .i64 (n : Int)]) ∧ w' = W) :
    Calls Try.prog 9 #[.string s, .int .i64 (p : Int)] w fun e w' => e = .returned (nres q n) ∧ w' = w := by
  have K1 := Lib.hid k1; have HQ := Lib.hid hq; clear k1 hq
  have hp1 : (p : Int) < (s.size : Int) := by omega
  have hnz : ((n : Int) == 0) = false := by rw [beq_eq_false_iff_ne]; omega
  have hgt : (n : Int) ≤ (s.size : Int) - p := by omega
  go_enter Try.func9, Try.ntmps9
  go_wp2_with (go_at_call 19; ((with_reducible refine (K1.out _).mono ?_); rintro e w' ⟨rfl, rfl⟩))
  go_loop [6, 8] (fun c i => ∃ k m : Nat, 1 ≤ k ∧ k ≤ n ∧ c = .int .i32 (m : Nat) ∧ i = .int .i64 (k : Nat) ∧ mok k m ∧ Hid (uacc m (n - k) (s.data.toList.drop (p + k)) = q)) (fun _ i => n - (intOf i).toNat)
  case atStart => exact ⟨1, o, Nat.le_refl _, hn1, rfl, rfl, Or.inl ⟨rfl, ho⟩, HQ⟩
  case round =>
    obtain ⟨k, m, hk1, hk2, rfl, rfl, hm, HU⟩ := hrel
    have hm4 := mok_lt4 hm
    by_cases hlt : k < n
    · have hpk : p + k < s.size := by omega
      have hdrop := drop_cons s (p + k) hpk
      have HU2 : Hid (uacc m (n - k) (s[p + k] :: s.data.toList.drop (p + k + 1)) = q) := by rw [← hdrop]; exact HU
      clear hdrop HU
      have hm3 := mok_lt hm (by omega)
      have hb : s[p + k].toNat < 256 := UInt8.toNat_lt _
      have hi0 : (0 : Int) ≤ (p : Int) + k := by omega
      have hi1 : (p : Int) + k < (s.size : Int) := by omega
      have hlti : (k : Int) < (n : Int) := by omega
      cases hc : ucon s[p + k].toNat with
      | false =>
        have C := fun W => gone_any s[p + k].toNat hb W
        rw [hc] at C
        have HC := Lib.hid C; clear C
        have HQ2 : Hid (q = none) := by
          have := HU2.out
          rw [show n - k = (n - k - 1) + 1 from by omega] at this
          simp only [uacc, hc] at this
          exact this.symm
        clear HU2 hc
        go_wp2_with (go_at_call 20; ((with_reducible refine (HC.out _).mono ?_); rintro e w' ⟨rfl, rfl⟩))
        go_ret2
        exact ⟨by rw [HQ2.out]; rfl, rfl⟩
      | true =>
        have C := fun W => gone_any s[p + k].toNat hb W
        rw [hc] at C
        have hb2 : 128 ≤ s[p + k].toNat ∧ s[p + k].toNat < 192 := by unfold ucon at hc; exact of_decide_eq_true hc
        have hx : s[p + k].toNat % 64 = s[p + k].toNat - 128 := by omega
        have HU3 : Hid (uacc (m * 64 + s[p + k].toNat % 64) (n - (k + 1)) (s.data.toList.drop (p + (k + 1))) = q) := by
          have := HU2.out
          rw [show n - k = (n - (k + 1)) + 1 from by omega] at this
          simp only [uacc, hc, if_true] at this
          rw [hx]
          exact this
        have hx64 : s[p + k].toNat % 64 < 64 := by omega
        clear HU2 hc hb2 hx
        generalize s[p + k].toNat % 64 = x at C HU3 hx64
        have HC := Lib.hid C; clear C
        have hor := join6 hm3 hx64
        go_wp2_with (go_at_call 20; ((with_reducible refine (HC.out _).mono ?_); rintro e w' ⟨rfl, rfl⟩))
        go_round
        case rel => exact ⟨k + 1, m * 64 + x, by omega, by omega, rfl, by go_num, mok_step hm (by omega) hx64, HU3⟩
        case measure => simp [intOf]; omega
    · obtain rfl : k = n := by omega
      have HQ2 : Hid (q = some m) := by
        have := HU.out
        rw [Nat.sub_self] at this
        simp only [uacc] at this
        exact this.symm
      clear HU
      have C := fun W => length_any (m : Int) W
      rw [zlng_nat] at C
      have hl4 := ulng_le m
      by_cases he : ulng m = k
      · rw [he] at C
        have HE := Lib.hid (nres_eq he)
        have HC := Lib.hid C; clear C he hl4
        go_wp2_with (go_at_call 21; ((with_reducible refine (HC.out _).mono ?_); rintro e w' ⟨rfl, rfl⟩))
        go_ret2
        exact ⟨by rw [HQ2.out, HE.out]; rfl, rfl⟩
      · have HE := Lib.hid (nres_ne he)
        have hne : ((ulng m : Int) != (k : Int)) = true := by rw [bne_iff_ne]; omega
        have HC := Lib.hid C; clear C he
        generalize ulng m = L at *
        go_wp2_with (go_at_call 21; ((with_reducible refine (HC.out _).mono ?_); rintro e w' ⟨rfl, rfl⟩))
        go_ret2
        exact ⟨by rw [HQ2.out, HE.out]; rfl, rfl⟩
/-- What stands at a place. -/
def uat (s : ByteArray) (p : Int) : List UInt8 := if p < 0 then [] else s.data.toList.drop p.toNat
theorem uat_nat (s : ByteArray) (p : Nat) : uat s (p : Int) = s.data.toList.drop p := by unfold uat; rw [if_neg (by omega), Int.toNat_natCast]
theorem uat_out {s : ByteArray} {p : Int} (h : p < 0 ∨ (s.size : Int) ≤ p) : uat s p = [] := by
  unfold uat
  split
  · rfl
  · exact List.drop_of_length_le (by rw [Array.length_toList]; show s.size ≤ p.toNat; omega)
theorem unc_nil : unc [] = 0 := rfl
theorem unn_nil : unn [] = 0 := rfl
/-- What a Next answers, in all ways. -/
def nans (l : List UInt8) : Value := .tuple #[.int .i64 (unc l), .int .i64 (unn l : Nat)]
theorem nans_none {l : List UInt8} (h : l ≠ []) (hd : udec l = none) : nans l = .tuple #[.int .i64 (-1), .int .i64 1] := by
  unfold nans unc unn
  rw [if_neg h, if_neg h, hd]
  rfl
theorem nans_res {b : UInt8} {r : List UInt8} (h : usz b.toNat ≠ 0) : nans (b :: r) = nres (uacc (uown b.toNat) (usz b.toNat - 1) r) (usz b.toNat) := by
  unfold nans unc unn
  rw [if_neg (by simp), if_neg (by simp)]
  simp only [udec, if_neg h]
  cases uacc (uown b.toNat) (usz b.toNat - 1) r with
  | none => rfl
  | some c =>
    simp only
    by_cases he : ulng c = usz b.toNat
    · rw [nres_eq he, if_pos he]
    · rw [nres_ne he, if_neg he]; rfl
theorem next_any (s : ByteArray) (hmax : s.size ≤ 140737488351232) (p : Int) (w : World) :
    Calls Try.prog 9 #[.string s, .int .i64 p] w fun e w' => e = .returned (nans (uat s p)) ∧ w' = w := by
  by_cases hout : p < 0 ∨ (s.size : Int) ≤ p
  · rw [uat_out hout]; exact next_out s p hout w
  · obtain ⟨p, rfl⟩ := Int.eq_ofNat_of_zero_le (show 0 ≤ p by omega)
    have hp : p < s.size := by omega
    rw [uat_nat, drop_cons s p hp]
    have hb : s[p].toNat < 256 := UInt8.toNat_lt _
    have C := fun W => begun_any s[p].toNat hb W
    have h4 := usz_le s[p].toNat
    by_cases h0 : usz s[p].toNat = 0
    · rw [nans_none (by simp) (by simp [udec, h0])]
      exact next_bad s p _ _ hp hmax (Or.inl h0) w C
    · by_cases hl : p + usz s[p].toNat ≤ s.size
      · rw [nans_res h0]
        exact next_loop s p _ _ _ (by omega) h4 hp hl hmax (by unfold uown; (repeat' split) <;> omega) rfl w C
      · have hd : uacc (uown s[p].toNat) (usz s[p].toNat - 1) (s.data.toList.drop (p + 1)) = none := by
          cases hu : uacc (uown s[p].toNat) (usz s[p].toNat - 1) (s.data.toList.drop (p + 1)) with
          | none => rfl
          | some d =>
            have := uacc_len _ _ _ _ hu
            rw [List.length_drop, Array.length_toList, show s.data.size = s.size from rfl] at this
            omega
        rw [nans_res h0, hd, nres_none]
        exact next_bad s p _ _ hp hmax (Or.inr ⟨by omega, h4⟩) w C
end Go.Proofs.Ytoibaeilbolffaa
