/-
  The reference's Next: for every text of at most 2^47 bytes, every place.
-/
import Derived.Test.YtoibaeilbolffaaUtfNext
namespace Go.Proofs.Ytoibaeilbolffaa
open Go.RowKit

theorem and192 : ∀ x : Fin 256, x.val &&& 192 = x.val / 64 * 64 := by decide +kernel
theorem con_yes {b : Nat} (hb : b < 256) (h : ucon b = true) : bits .and .u8 (b : Int) 192 = 128 := by
  have := and_u8 (m := 192) hb (by decide)
  rw [and192 ⟨b, hb⟩] at this
  have h2 : 128 ≤ b ∧ b < 192 := by unfold ucon at h; exact of_decide_eq_true h
  rw [show ((192 : Nat) : Int) = 192 from rfl] at this
  rw [this]
  exact congrArg (fun n : Nat => (n : Int)) (show b / 64 * 64 = 128 by omega)
theorem con_no {b : Nat} (hb : b < 256) (h : ucon b = false) : ∃ A : Int, bits .and .u8 (b : Int) 192 = A ∧ (A != 128) = true := by
  refine ⟨_, rfl, ?_⟩
  have := and_u8 (m := 192) hb (by decide)
  rw [and192 ⟨b, hb⟩] at this
  rw [show ((192 : Nat) : Int) = 192 from rfl] at this
  have h2 : ¬ (128 ≤ b ∧ b < 192) := by unfold ucon at h; exact of_decide_eq_false h
  rw [this, bne_iff_ne]
  intro hc
  have : b / 64 * 64 = 128 := by simp only at hc; omega
  omega
theorem con_low {b : Nat} (hb : b < 256) : bits .and .u8 (b : Int) 63 = ((b % 64 : Nat) : Int) := by
  have := and_u8 (m := 63) hb (by decide)
  rw [nat_mask6] at this
  exact this
/-- How great what has been read can be, by the size that the first byte told. -/
def mok2 (n k m : Nat) : Prop := (n = 2 ∧ ((k = 1 ∧ m < 32) ∨ (k = 2 ∧ m < 2048))) ∨ (n = 3 ∧ ((k = 1 ∧ m < 16) ∨ (k = 2 ∧ m < 1024) ∨ (k = 3 ∧ m < 65536))) ∨ (n = 4 ∧ ((k = 1 ∧ m < 8) ∨ (k = 2 ∧ m < 512) ∨ (k = 3 ∧ m < 32768) ∨ (k = 4 ∧ m < 2097152)))
theorem mok2_step {n k m x : Nat} (h : mok2 n k m) (hk : k < n) (hx : x < 64) : mok2 n (k + 1) (m * 64 + x) := by unfold mok2 at *; omega
theorem mok2_lt {n k m : Nat} (h : mok2 n k m) : m < 2097152 := by unfold mok2 at h; omega
theorem mok2_end {n m : Nat} (h : mok2 n n m) (least : Nat) (hl : (n = 2 ∧ least = 128) ∨ (n = 3 ∧ least = 2048) ∨ (n = 4 ∧ least = 65536)) : ulng m = n ↔ least ≤ m ∧ ulng m ≠ 0 := by
  have hm : (n = 2 ∧ m < 2048) ∨ (n = 3 ∧ m < 65536) ∨ n = 4 := by unfold mok2 at h; omega
  clear h
  unfold ulng
  split
  · omega
  · split
    · omega
    · split
      · omega
      · split <;> omega

set_option maxRecDepth 4000000 in
theorem rnext_out (s : ByteArray) (at' : Int) (h : at' < 0 ∨ (s.size : Int) ≤ at') (w : World) :
    Calls Try.prog 10 #[.string s, .int .i64 at'] w fun e w' => e = .returned (.tuple #[.int .i64 0, .int .i64 0]) ∧ w' = w := by
  rcases h with h | h
  · go_enter Try.func10, Try.ntmps10
    go_wp2
    go_ret2
    exact ⟨rfl, rfl⟩
  · have h0 : 0 ≤ at' := by omega
    go_enter Try.func10, Try.ntmps10
    go_wp2
    go_ret2
    exact ⟨rfl, rfl⟩
set_option maxRecDepth 4000000 in
theorem rnext_one (s : ByteArray) (p : Nat) (hp : p < s.size) (hb : s[p].toNat < 128) (w : World) :
    Calls Try.prog 10 #[.string s, .int .i64 (p : Int)] w fun e w' => e = .returned (.tuple #[.int .i64 (s[p].toNat : Nat), .int .i64 1]) ∧ w' = w := by
  have hp1 : (p : Int) < (s.size : Int) := by omega
  have hb1 : (s[p].toNat : Int) < 128 := by omega
  go_enter Try.func10, Try.ntmps10
  go_wp2
  go_ret2
  exact ⟨rfl, rfl⟩
set_option maxRecDepth 4000000 in
theorem rnext_no (s : ByteArray) (p : Nat) (hp : p < s.size) (hb : (128 ≤ s[p].toNat ∧ s[p].toNat < 192) ∨ 248 ≤ s[p].toNat) (w : World) :
    Calls Try.prog 10 #[.string s, .int .i64 (p : Int)] w fun e w' => e = .returned (.tuple #[.int .i64 (-1), .int .i64 1]) ∧ w' = w := by
  have hp1 : (p : Int) < (s.size : Int) := by omega
  rcases hb with ⟨h1, h2⟩ | h1
  · have hb1 : (128 : Int) ≤ (s[p].toNat : Int) := by omega
    have hb2 : (s[p].toNat : Int) < 192 := by omega
    go_enter Try.func10, Try.ntmps10
    go_wp2
    go_ret2
    exact ⟨rfl, rfl⟩
  · have hb1 : (248 : Int) ≤ (s[p].toNat : Int) := by omega
    have hb2 : (s[p].toNat : Int) < 256 := by have := UInt8.toNat_lt s[p]; omega
    go_enter Try.func10, Try.ntmps10
    go_wp2
    go_ret2
    exact ⟨rfl, rfl⟩
set_option maxRecDepth 4000000 in
theorem rnext_short2 (s : ByteArray) (p o : Nat) (hp : p < s.size) (hmax : s.size ≤ 140737488351232) (h1 : 192 ≤ s[p].toNat) (h2 : s[p].toNat < 224) (ho : bits .and .i64 (s[p].toNat : Int) 31 = (o : Int)) (hpn : s.size < p + 2) (w : World) :
    Calls Try.prog 10 #[.string s, .int .i64 (p : Int)] w fun e w' => e = .returned (.tuple #[.int .i64 (-1), .int .i64 1]) ∧ w' = w := by
  have hp1 : (p : Int) < (s.size : Int) := by omega
  have hb1 : (192 : Int) ≤ (s[p].toNat : Int) := by omega
  have hb2 : (s[p].toNat : Int) < 224 := by omega
  have hpn1 : (s.size : Int) < (p : Int) + 2 := by omega
  go_enter Try.func10, Try.ntmps10
  go_wp2
  go_ret2
  exact ⟨rfl, rfl⟩
set_option maxHeartbeats 1000000 in
set_option maxRecDepth 4000000 in
theorem rnext_loop2 (s : ByteArray) (p o : Nat) (q : Option Nat) (hp : p < s.size) (hmax : s.size ≤ 140737488351232) (h1 : 192 ≤ s[p].toNat) (h2 : s[p].toNat < 224) (ho : bits .and .i64 (s[p].toNat : Int) 31 = (o : Int)) (hom : mok2 2 1 o) (hpn : p + 2 ≤ s.size) (hq : uacc o 1 (s.data.toList.drop (p + 1)) = q) (w : World) :
    Calls Try.prog 10 #[.string s, .int .i64 (p : Int)] w fun e w' => e = .returned (nres q 2) ∧ w' = w := by
  have HQ := Lib.hid hq; clear hq
  have hp1 : (p : Int) < (s.size : Int) := by omega
  have hb1 : (192 : Int) ≤ (s[p].toNat : Int) := by omega
  have hb2 : (s[p].toNat : Int) < 224 := by omega
  have hpn1 : (p : Int) + 2 ≤ (s.size : Int) := by omega
  go_enter Try.func10, Try.ntmps10
  go_wp2
  go_loop [6, 9] (fun c i => ∃ k m : Nat, 1 ≤ k ∧ k ≤ 2 ∧ c = .int .i64 (m : Nat) ∧ i = .int .i64 (k : Nat) ∧ mok2 2 k m ∧ Hid (uacc m (2 - k) (s.data.toList.drop (p + k)) = q)) (fun _ i => 2 - (intOf i).toNat)
  case atStart => exact ⟨1, o, by decide, by decide, rfl, rfl, hom, HQ⟩
  case round =>
    obtain ⟨k, m, hk1, hk2, rfl, rfl, hm, HU⟩ := hrel
    have hm4 := mok2_lt hm
    by_cases hlt : k < 2
    · have hpk : p + k < s.size := by omega
      have hdrop := drop_cons s (p + k) hpk
      have HU2 : Hid (uacc m (2 - k) (s[p + k] :: s.data.toList.drop (p + k + 1)) = q) := by rw [← hdrop]; exact HU
      clear hdrop HU
      have hb : s[p + k].toNat < 256 := UInt8.toNat_lt _
      have hi0 : (0 : Int) ≤ (p : Int) + k := by omega
      have hi1 : (p : Int) + k < (s.size : Int) := by omega
      have hlti : (k : Int) < 2 := by omega
      cases hc : ucon s[p + k].toNat with
      | false =>
        obtain ⟨A, hA, hA2⟩ := con_no hb hc
        have HQ2 : Hid (q = none) := by
          have := HU2.out
          rw [show 2 - k = (2 - k - 1) + 1 from by omega] at this
          simp only [uacc, hc] at this
          exact this.symm
        clear HU2 hc
        go_wp2
        go_ret2
        exact ⟨by rw [HQ2.out]; rfl, rfl⟩
      | true =>
        have hA := con_yes hb hc
        have hA2 := con_low hb
        have hb2 : 128 ≤ s[p + k].toNat ∧ s[p + k].toNat < 192 := by unfold ucon at hc; exact of_decide_eq_true hc
        have hx : s[p + k].toNat % 64 = s[p + k].toNat - 128 := by omega
        have HU3 : Hid (uacc (m * 64 + s[p + k].toNat % 64) (2 - (k + 1)) (s.data.toList.drop (p + (k + 1))) = q) := by
          have := HU2.out
          rw [show 2 - k = (2 - (k + 1)) + 1 from by omega] at this
          simp only [uacc, hc, if_true] at this
          rw [hx]
          exact this
        have hx64 : s[p + k].toNat % 64 < 64 := by omega
        clear HU2 hc hb2 hx
        generalize s[p + k].toNat % 64 = x at hA2 HU3 hx64
        go_wp2
        go_round
        case rel => exact ⟨k + 1, m * 64 + x, by omega, by omega, by go_num, by go_num, mok2_step hm hlt hx64, HU3⟩
        case measure => simp [intOf]; omega
    · obtain rfl : k = 2 := by omega
      have HQ2 : Hid (q = some m) := by
        have := HU.out
        simp only [Nat.sub_self, uacc] at this
        exact this.symm
      clear HU
      have hend := mok2_end hm 128 (by decide)
      by_cases hl : 128 ≤ m
      · have C := fun W => point_any (m : Int) W
        rw [zlng_nat] at C
        have hl1 : (128 : Int) ≤ (m : Int) := by omega
        by_cases h0 : ulng m = 0
        · rw [decide_eq_false (by omega)] at C
          have HE := Lib.hid (nres_ne (c := m) (n := 2) (by omega))
          have HC := Lib.hid C; clear C hend h0
          go_wp2_with (go_at_call 22; ((with_reducible refine (HC.out _).mono ?_); rintro e w' ⟨rfl, rfl⟩))
          go_ret2
          exact ⟨by rw [HQ2.out, HE.out]; rfl, rfl⟩
        · rw [decide_eq_true (by omega)] at C
          have HE := Lib.hid (nres_eq (c := m) (n := 2) (hend.2 ⟨hl, h0⟩))
          have HC := Lib.hid C; clear C hend h0
          go_wp2_with (go_at_call 22; ((with_reducible refine (HC.out _).mono ?_); rintro e w' ⟨rfl, rfl⟩))
          go_ret2
          exact ⟨by rw [HQ2.out, HE.out]; rfl, rfl⟩
      · have hl1 : (m : Int) < 128 := by omega
        have HE := Lib.hid (nres_ne (c := m) (n := 2) (fun he => hl (hend.1 he).1))
        clear hend
        go_wp2
        go_ret2
        exact ⟨by rw [HQ2.out, HE.out]; rfl, rfl⟩
set_option maxRecDepth 4000000 in
theorem rnext_short3 (s : ByteArray) (p o : Nat) (hp : p < s.size) (hmax : s.size ≤ 140737488351232) (h1 : 224 ≤ s[p].toNat) (h2 : s[p].toNat < 240) (ho : bits .and .i64 (s[p].toNat : Int) 15 = (o : Int)) (hpn : s.size < p + 3) (w : World) :
    Calls Try.prog 10 #[.string s, .int .i64 (p : Int)] w fun e w' => e = .returned (.tuple #[.int .i64 (-1), .int .i64 1]) ∧ w' = w := by
  have hp1 : (p : Int) < (s.size : Int) := by omega
  have hb1 : (224 : Int) ≤ (s[p].toNat : Int) := by omega
  have hb2 : (s[p].toNat : Int) < 240 := by omega
  have hpn1 : (s.size : Int) < (p : Int) + 3 := by omega
  go_enter Try.func10, Try.ntmps10
  go_wp2
  go_ret2
  exact ⟨rfl, rfl⟩
set_option maxHeartbeats 1000000 in
set_option maxRecDepth 4000000 in
theorem rnext_loop3 (s : ByteArray) (p o : Nat) (q : Option Nat) (hp : p < s.size) (hmax : s.size ≤ 140737488351232) (h1 : 224 ≤ s[p].toNat) (h2 : s[p].toNat < 240) (ho : bits .and .i64 (s[p].toNat : Int) 15 = (o : Int)) (hom : mok2 3 1 o) (hpn : p + 3 ≤ s.size) (hq : uacc o 2 (s.data.toList.drop (p + 1)) = q) (w : World) :
    Calls Try.prog 10 #[.string s, .int .i64 (p : Int)] w fun e w' => e = .returned (nres q 3) ∧ w' = w := by
  have HQ := Lib.hid hq; clear hq
  have hp1 : (p : Int) < (s.size : Int) := by omega
  have hb1 : (224 : Int) ≤ (s[p].toNat : Int) := by omega
  have hb2 : (s[p].toNat : Int) < 240 := by omega
  have hpn1 : (p : Int) + 3 ≤ (s.size : Int) := by omega
  go_enter Try.func10, Try.ntmps10
  go_wp2
  go_loop [6, 9] (fun c i => ∃ k m : Nat, 1 ≤ k ∧ k ≤ 3 ∧ c = .int .i64 (m : Nat) ∧ i = .int .i64 (k : Nat) ∧ mok2 3 k m ∧ Hid (uacc m (3 - k) (s.data.toList.drop (p + k)) = q)) (fun _ i => 3 - (intOf i).toNat)
  case atStart => exact ⟨1, o, by decide, by decide, rfl, rfl, hom, HQ⟩
  case round =>
    obtain ⟨k, m, hk1, hk2, rfl, rfl, hm, HU⟩ := hrel
    have hm4 := mok2_lt hm
    by_cases hlt : k < 3
    · have hpk : p + k < s.size := by omega
      have hdrop := drop_cons s (p + k) hpk
      have HU2 : Hid (uacc m (3 - k) (s[p + k] :: s.data.toList.drop (p + k + 1)) = q) := by rw [← hdrop]; exact HU
      clear hdrop HU
      have hb : s[p + k].toNat < 256 := UInt8.toNat_lt _
      have hi0 : (0 : Int) ≤ (p : Int) + k := by omega
      have hi1 : (p : Int) + k < (s.size : Int) := by omega
      have hlti : (k : Int) < 3 := by omega
      cases hc : ucon s[p + k].toNat with
      | false =>
        obtain ⟨A, hA, hA2⟩ := con_no hb hc
        have HQ2 : Hid (q = none) := by
          have := HU2.out
          rw [show 3 - k = (3 - k - 1) + 1 from by omega] at this
          simp only [uacc, hc] at this
          exact this.symm
        clear HU2 hc
        go_wp2
        go_ret2
        exact ⟨by rw [HQ2.out]; rfl, rfl⟩
      | true =>
        have hA := con_yes hb hc
        have hA2 := con_low hb
        have hb2 : 128 ≤ s[p + k].toNat ∧ s[p + k].toNat < 192 := by unfold ucon at hc; exact of_decide_eq_true hc
        have hx : s[p + k].toNat % 64 = s[p + k].toNat - 128 := by omega
        have HU3 : Hid (uacc (m * 64 + s[p + k].toNat % 64) (3 - (k + 1)) (s.data.toList.drop (p + (k + 1))) = q) := by
          have := HU2.out
          rw [show 3 - k = (3 - (k + 1)) + 1 from by omega] at this
          simp only [uacc, hc, if_true] at this
          rw [hx]
          exact this
        have hx64 : s[p + k].toNat % 64 < 64 := by omega
        clear HU2 hc hb2 hx
        generalize s[p + k].toNat % 64 = x at hA2 HU3 hx64
        go_wp2
        go_round
        case rel => exact ⟨k + 1, m * 64 + x, by omega, by omega, by go_num, by go_num, mok2_step hm hlt hx64, HU3⟩
        case measure => simp [intOf]; omega
    · obtain rfl : k = 3 := by omega
      have HQ2 : Hid (q = some m) := by
        have := HU.out
        simp only [Nat.sub_self, uacc] at this
        exact this.symm
      clear HU
      have hend := mok2_end hm 2048 (by decide)
      by_cases hl : 2048 ≤ m
      · have C := fun W => point_any (m : Int) W
        rw [zlng_nat] at C
        have hl1 : (2048 : Int) ≤ (m : Int) := by omega
        by_cases h0 : ulng m = 0
        · rw [decide_eq_false (by omega)] at C
          have HE := Lib.hid (nres_ne (c := m) (n := 3) (by omega))
          have HC := Lib.hid C; clear C hend h0
          go_wp2_with (go_at_call 22; ((with_reducible refine (HC.out _).mono ?_); rintro e w' ⟨rfl, rfl⟩))
          go_ret2
          exact ⟨by rw [HQ2.out, HE.out]; rfl, rfl⟩
        · rw [decide_eq_true (by omega)] at C
          have HE := Lib.hid (nres_eq (c := m) (n := 3) (hend.2 ⟨hl, h0⟩))
          have HC := Lib.hid C; clear C hend h0
          go_wp2_with (go_at_call 22; ((with_reducible refine (HC.out _).mono ?_); rintro e w' ⟨rfl, rfl⟩))
          go_ret2
          exact ⟨by rw [HQ2.out, HE.out]; rfl, rfl⟩
      · have hl1 : (m : Int) < 2048 := by omega
        have HE := Lib.hid (nres_ne (c := m) (n := 3) (fun he => hl (hend.1 he).1))
        clear hend
        go_wp2
        go_ret2
        exact ⟨by rw [HQ2.out, HE.out]; rfl, rfl⟩
set_option maxRecDepth 4000000 in
theorem rnext_short4 (s : ByteArray) (p o : Nat) (hp : p < s.size) (hmax : s.size ≤ 140737488351232) (h1 : 240 ≤ s[p].toNat) (h2 : s[p].toNat < 248) (ho : bits .and .i64 (s[p].toNat : Int) 7 = (o : Int)) (hpn : s.size < p + 4) (w : World) :
    Calls Try.prog 10 #[.string s, .int .i64 (p : Int)] w fun e w' => e = .returned (.tuple #[.int .i64 (-1), .int .i64 1]) ∧ w' = w := by
  have hp1 : (p : Int) < (s.size : Int) := by omega
  have hb1 : (240 : Int) ≤ (s[p].toNat : Int) := by omega
  have hb2 : (s[p].toNat : Int) < 248 := by omega
  have hpn1 : (s.size : Int) < (p : Int) + 4 := by omega
  go_enter Try.func10, Try.ntmps10
  go_wp2
  go_ret2
  exact ⟨rfl, rfl⟩
set_option maxHeartbeats 1000000 in
set_option maxRecDepth 4000000 in
theorem rnext_loop4 (s : ByteArray) (p o : Nat) (q : Option Nat) (hp : p < s.size) (hmax : s.size ≤ 140737488351232) (h1 : 240 ≤ s[p].toNat) (h2 : s[p].toNat < 248) (ho : bits .and .i64 (s[p].toNat : Int) 7 = (o : Int)) (hom : mok2 4 1 o) (hpn : p + 4 ≤ s.size) (hq : uacc o 3 (s.data.toList.drop (p + 1)) = q) (w : World) :
    Calls Try.prog 10 #[.string s, .int .i64 (p : Int)] w fun e w' => e = .returned (nres q 4) ∧ w' = w := by
  have HQ := Lib.hid hq; clear hq
  have hp1 : (p : Int) < (s.size : Int) := by omega
  have hb1 : (240 : Int) ≤ (s[p].toNat : Int) := by omega
  have hb2 : (s[p].toNat : Int) < 248 := by omega
  have hpn1 : (p : Int) + 4 ≤ (s.size : Int) := by omega
  go_enter Try.func10, Try.ntmps10
  go_wp2
  go_loop [6, 9] (fun c i => ∃ k m : Nat, 1 ≤ k ∧ k ≤ 4 ∧ c = .int .i64 (m : Nat) ∧ i = .int .i64 (k : Nat) ∧ mok2 4 k m ∧ Hid (uacc m (4 - k) (s.data.toList.drop (p + k)) = q)) (fun _ i => 4 - (intOf i).toNat)
  case atStart => exact ⟨1, o, by decide, by decide, rfl, rfl, hom, HQ⟩
  case round =>
    obtain ⟨k, m, hk1, hk2, rfl, rfl, hm, HU⟩ := hrel
    have hm4 := mok2_lt hm
    by_cases hlt : k < 4
    · have hpk : p + k < s.size := by omega
      have hdrop := drop_cons s (p + k) hpk
      have HU2 : Hid (uacc m (4 - k) (s[p + k] :: s.data.toList.drop (p + k + 1)) = q) := by rw [← hdrop]; exact HU
      clear hdrop HU
      have hb : s[p + k].toNat < 256 := UInt8.toNat_lt _
      have hi0 : (0 : Int) ≤ (p : Int) + k := by omega
      have hi1 : (p : Int) + k < (s.size : Int) := by omega
      have hlti : (k : Int) < 4 := by omega
      cases hc : ucon s[p + k].toNat with
      | false =>
        obtain ⟨A, hA, hA2⟩ := con_no hb hc
        have HQ2 : Hid (q = none) := by
          have := HU2.out
          rw [show 4 - k = (4 - k - 1) + 1 from by omega] at this
          simp only [uacc, hc] at this
          exact this.symm
        clear HU2 hc
        go_wp2
        go_ret2
        exact ⟨by rw [HQ2.out]; rfl, rfl⟩
      | true =>
        have hA := con_yes hb hc
        have hA2 := con_low hb
        have hb2 : 128 ≤ s[p + k].toNat ∧ s[p + k].toNat < 192 := by unfold ucon at hc; exact of_decide_eq_true hc
        have hx : s[p + k].toNat % 64 = s[p + k].toNat - 128 := by omega
        have HU3 : Hid (uacc (m * 64 + s[p + k].toNat % 64) (4 - (k + 1)) (s.data.toList.drop (p + (k + 1))) = q) := by
          have := HU2.out
          rw [show 4 - k = (4 - (k + 1)) + 1 from by omega] at this
          simp only [uacc, hc, if_true] at this
          rw [hx]
          exact this
        have hx64 : s[p + k].toNat % 64 < 64 := by omega
        clear HU2 hc hb2 hx
        generalize s[p + k].toNat % 64 = x at hA2 HU3 hx64
        go_wp2
        go_round
        case rel => exact ⟨k + 1, m * 64 + x, by omega, by omega, by go_num, by go_num, mok2_step hm hlt hx64, HU3⟩
        case measure => simp [intOf]; omega
    · obtain rfl : k = 4 := by omega
      have HQ2 : Hid (q = some m) := by
        have := HU.out
        simp only [Nat.sub_self, uacc] at this
        exact this.symm
      clear HU
      have hend := mok2_end hm 65536 (by decide)
      by_cases hl : 65536 ≤ m
      · have C := fun W => point_any (m : Int) W
        rw [zlng_nat] at C
        have hl1 : (65536 : Int) ≤ (m : Int) := by omega
        by_cases h0 : ulng m = 0
        · rw [decide_eq_false (by omega)] at C
          have HE := Lib.hid (nres_ne (c := m) (n := 4) (by omega))
          have HC := Lib.hid C; clear C hend h0
          go_wp2_with (go_at_call 22; ((with_reducible refine (HC.out _).mono ?_); rintro e w' ⟨rfl, rfl⟩))
          go_ret2
          exact ⟨by rw [HQ2.out, HE.out]; rfl, rfl⟩
        · rw [decide_eq_true (by omega)] at C
          have HE := Lib.hid (nres_eq (c := m) (n := 4) (hend.2 ⟨hl, h0⟩))
          have HC := Lib.hid C; clear C hend h0
          go_wp2_with (go_at_call 22; ((with_reducible refine (HC.out _).mono ?_); rintro e w' ⟨rfl, rfl⟩))
          go_ret2
          exact ⟨by rw [HQ2.out, HE.out]; rfl, rfl⟩
      · have hl1 : (m : Int) < 65536 := by omega
        have HE := Lib.hid (nres_ne (c := m) (n := 4) (fun he => hl (hend.1 he).1))
        clear hend
        go_wp2
        go_ret2
        exact ⟨by rw [HQ2.out, HE.out]; rfl, rfl⟩
theorem i64_and_nat (a b : Nat) (ha : a < 4611686018427387904) (hb : b < 4611686018427387904) : bits .and .i64 (a : Int) (b : Int) = ((a &&& b : Nat) : Int) := by
  have hx : a &&& b < 2 ^ 62 := Nat.and_lt_two_pow _ (by omega)
  show IntKind.i64.wrap ((BitVec.ofInt 64 (a : Int) &&& BitVec.ofInt 64 (b : Int)).toNat : Int) = _
  rw [BitVec.toNat_and, BitVec.ofInt_natCast, BitVec.ofInt_natCast, BitVec.toNat_ofNat, BitVec.toNat_ofNat, Nat.mod_eq_of_lt (show a < 2 ^ 64 by omega), Nat.mod_eq_of_lt (show b < 2 ^ 64 by omega)]
  simp [IntKind.wrap, IntKind.bits, IntKind.signed]
  omega
theorem rnext_any (s : ByteArray) (hmax : s.size ≤ 140737488351232) (p : Int) (w : World) :
    Calls Try.prog 10 #[.string s, .int .i64 p] w fun e w' => e = .returned (nans (uat s p)) ∧ w' = w := by
  by_cases hout : p < 0 ∨ (s.size : Int) ≤ p
  · rw [uat_out hout]; exact rnext_out s p hout w
  · obtain ⟨p, rfl⟩ := Int.eq_ofNat_of_zero_le (show 0 ≤ p by omega)
    have hp : p < s.size := by omega
    rw [uat_nat, drop_cons s p hp]
    have hb : s[p].toNat < 256 := UInt8.toNat_lt _
    by_cases h0 : usz s[p].toNat = 0
    · rw [nans_none (by simp) (by simp [udec, h0])]
      exact rnext_no s p hp (by unfold usz at h0; (repeat' split at h0) <;> omega) w
    have hd : ¬ p + usz s[p].toNat ≤ s.size → uacc (uown s[p].toNat) (usz s[p].toNat - 1) (s.data.toList.drop (p + 1)) = none := fun hl => by
      cases hu : uacc (uown s[p].toNat) (usz s[p].toNat - 1) (s.data.toList.drop (p + 1)) with
      | none => rfl
      | some d =>
        have := uacc_len _ _ _ _ hu
        rw [List.length_drop, Array.length_toList, show s.data.size = s.size from rfl] at this
        omega
    rw [nans_res h0]
    by_cases b1 : s[p].toNat < 128
    · have e1 : usz s[p].toNat = 1 := by unfold usz; rw [if_pos b1]
      have e2 : uown s[p].toNat = s[p].toNat := by unfold uown; rw [if_pos b1]
      rw [e1, e2]
      simp only [Nat.sub_self, uacc]
      rw [nres_eq (by unfold ulng; rw [if_neg (by omega), if_pos b1])]
      exact rnext_one s p hp b1 w
    have b2 : ¬ s[p].toNat < 192 := by intro h; apply h0; unfold usz; rw [if_neg b1, if_pos h]
    by_cases b3 : s[p].toNat < 224
    · have e1 : usz s[p].toNat = 2 := by unfold usz; rw [if_neg b1, if_neg b2, if_pos b3]
      have e2 : uown s[p].toNat = s[p].toNat - 192 := by unfold uown; rw [if_neg b1, if_neg b2, if_pos b3]
      have ha : bits .and .i64 (s[p].toNat : Int) 31 = ((s[p].toNat - 192 : Nat) : Int) := by
        have := i64_and_nat s[p].toNat 31 (by omega) (by decide)
        rw [nat_mask5, show s[p].toNat % 32 = s[p].toNat - 192 from by omega] at this
        exact this
      rw [e1, e2] at hd ⊢
      by_cases hl : p + 2 ≤ s.size
      · exact rnext_loop2 s p _ _ hp hmax (by omega) b3 ha (by unfold mok2; omega) hl rfl w
      · rw [hd hl, nres_none]
        exact rnext_short2 s p _ hp hmax (by omega) b3 ha (by omega) w
    by_cases b4 : s[p].toNat < 240
    · have e1 : usz s[p].toNat = 3 := by unfold usz; rw [if_neg b1, if_neg b2, if_neg b3, if_pos b4]
      have e2 : uown s[p].toNat = s[p].toNat - 224 := by unfold uown; rw [if_neg b1, if_neg b2, if_neg b3, if_pos b4]
      have ha : bits .and .i64 (s[p].toNat : Int) 15 = ((s[p].toNat - 224 : Nat) : Int) := by
        have := i64_and_nat s[p].toNat 15 (by omega) (by decide)
        rw [nat_mask4, show s[p].toNat % 16 = s[p].toNat - 224 from by omega] at this
        exact this
      rw [e1, e2] at hd ⊢
      by_cases hl : p + 3 ≤ s.size
      · exact rnext_loop3 s p _ _ hp hmax (by omega) b4 ha (by unfold mok2; omega) hl rfl w
      · rw [hd hl, nres_none]
        exact rnext_short3 s p _ hp hmax (by omega) b4 ha (by omega) w
    have b5 : s[p].toNat < 248 := by apply Decidable.byContradiction; intro h; apply h0; unfold usz; rw [if_neg b1, if_neg b2, if_neg b3, if_neg b4, if_neg h]
    have e1 : usz s[p].toNat = 4 := by unfold usz; rw [if_neg b1, if_neg b2, if_neg b3, if_neg b4, if_pos b5]
    have e2 : uown s[p].toNat = s[p].toNat - 240 := by unfold uown; rw [if_neg b1, if_neg b2, if_neg b3, if_neg b4, if_pos b5]
    have ha : bits .and .i64 (s[p].toNat : Int) 7 = ((s[p].toNat - 240 : Nat) : Int) := by
      have := i64_and_nat s[p].toNat 7 (by omega) (by decide)
      rw [nat_mask3, show s[p].toNat % 8 = s[p].toNat - 240 from by omega] at this
      exact this
    rw [e1, e2] at hd ⊢
    by_cases hl : p + 4 ≤ s.size
    · exact rnext_loop4 s p _ _ hp hmax (by omega) b5 ha (by unfold mok2; omega) hl rfl w
    · rw [hd hl, nres_none]
      exact rnext_short4 s p _ hp hmax (by omega) b5 ha (by omega) w
end Go.Proofs.Ytoibaeilbolffaa
