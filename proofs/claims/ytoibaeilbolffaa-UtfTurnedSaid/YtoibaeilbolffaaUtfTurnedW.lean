/-
  entrepotlaw5.UtfTurned answers true for any numbers, any place.
-/
import Derived.Test.YtoibaeilbolffaaUtfEndsW
import Derived.Test.YtoibaeilbolffaaPlainRow
import Derived.Lib.QuietBelow
namespace Go.Proofs.Ytoibaeilbolffaa
open Go.RowKit

/-- The code point of a number that UtfTurned makes. -/
def tcode (z : Int) : Nat := 128 + (IntKind.u64.wrap z % 53248).toNat
theorem tcode_lng (z : Int) : 2 ≤ ulng (tcode z) := by
  have h1 : tcode z < 128 + 53248 := by unfold tcode; omega
  have h0 : 128 ≤ tcode z := by unfold tcode; omega
  generalize tcode z = c at h0 h1
  unfold ulng
  rw [if_neg (by omega), if_neg (by omega)]
  split
  · omega
  · rw [if_pos (by omega)]; omega
theorem uput_code {c : Nat} (h : ulng c ≠ 0) : (uput (c : Int)).data.toList = uenc c := by
  rw [uput_some (by rw [zlng_nat]; exact h), Int.toNat_natCast]
theorem usz255 : usz (255 : UInt8).toNat = 0 := by decide
theorem turn_list (S : ByteArray) (k : Nat) : (S.extract 0 k ++ ⟨#[255]⟩ ++ S.extract (k + 1) S.size).data.toList = S.data.toList.take k ++ 255 :: S.data.toList.drop (k + 1) := by
  rw [app_list, app_list, extract_list, extract_list, List.drop_zero, ← len_list S, List.take_length]
  show S.data.toList.take k ++ [255] ++ S.data.toList.drop (k + 1) = _
  rw [List.append_assoc]
  rfl
theorem turned_bad (S : ByteArray) (k : Nat) : uval (S.extract 0 k ++ ⟨#[255]⟩ ++ S.extract (k + 1) S.size).data.toList = false := by
  rw [turn_list]
  cases h : uval (S.data.toList.take k ++ 255 :: S.data.toList.drop (k + 1)) with
  | false => rfl
  | true =>
    have := uval_byte _ _ (Nat.le_refl _) h 255 (by simp)
    exact absurd this (by decide)
theorem turned_next (S : ByteArray) (k : Nat) (h : k < S.size) : nans (uat (S.extract 0 k ++ ⟨#[255]⟩ ++ S.extract (k + 1) S.size) (k : Int)) = .tuple #[.int .i64 (-1), .int .i64 1] := by
  rw [uat_nat, turn_list]
  have e : (S.data.toList.take k ++ 255 :: S.data.toList.drop (k + 1)).drop k = 255 :: S.data.toList.drop (k + 1) := by
    have hl : (S.data.toList.take k).length = k := by rw [List.length_take, len_list]; omega
    exact List.drop_left' hl
  rw [e]
  exact nans_none (by simp) (by simp only [udec, usz255, if_true])
theorem turned_short {S : ByteArray} {cs : List Nat} (hne : cs ≠ []) (h2 : ∀ c ∈ cs, 2 ≤ ulng c) (hS : S.data.toList = uencs cs) : uval (S.extract 0 (S.size - 1)).data.toList = false := by
  have e := List.dropLast_concat_getLast hne
  have hl := h2 _ (List.getLast_mem hne)
  generalize cs.getLast hne = c at e hl
  have hall : ∀ x ∈ cs.dropLast, ulng x ≠ 0 := fun x hx => by have := h2 x (List.dropLast_subset _ hx); omega
  have hv := uval_encs cs.dropLast hall
  rw [extract_list, List.drop_zero, ← len_list S, hS, ← e, uencs_app, uencs_one, ← List.dropLast_eq_take, List.dropLast_append_of_ne_nil (by
    intro h
    have := uenc_len (c := c) (by omega)
    rw [h] at this
    simp at this
    omega), (uval_both _ _ _ (Nat.le_refl _) hv.1).1]
  exact udec_short hl
theorem take_succ (zs : List Int) (k : Nat) (h : k < zs.length) : zs.take (k + 1) = zs.take k ++ [zs.getD k 0] := by
  rw [List.take_succ_eq_append_getElem h, List.getD_eq_getElem?_getD, List.getElem?_eq_getElem h]
  rfl

theorem ubdn {w X : World} (h : Below w.heap.size w X) (n : Nat) : Below w.heap.size w (X.drewN n) := ⟨h.os, h.tape, h.output, h.size, h.block⟩
theorem turned_told (A : Option Addr) (n cap : Nat) (which : Int) (w : World) (h : n = 0 ∨ 30 < n) :
    Calls Try.prog 5 #[.slice A n cap, .int .i64 which] w fun e w' => e = .returned (.bool true) ∧ Below w.heap.size w w' := by
  rcases h with rfl | h
  · go_enter Try.func5, Try.ntmps5
    go_wp2_with (go_at_call 8; ((with_reducible refine (told5_true _).mono ?_); rintro e w1 ⟨rfl, hb1⟩))
    go_ret
    exact ⟨rfl, hb1⟩
  · have hz : ((n : Int) == 0) = false := by rw [beq_eq_false_iff_ne]; omega
    have h30 : (30 : Int) < (n : Int) := by omega
    go_enter Try.func5, Try.ntmps5
    go_wp2_with (go_at_call 8; ((with_reducible refine (told5_true _).mono ?_); rintro e w1 ⟨rfl, hb1⟩))
    go_ret
    exact ⟨rfl, hb1⟩
set_option maxHeartbeats 2000000 in
set_option maxRecDepth 4000000 in
theorem turned_core (b off cap : Nat) (zs : List Int) (which : Int) (w : World) (h0 : 0 < zs.length) (h30 : zs.length ≤ 30) (hcell : ∀ i, i < zs.length → w.cell? ⟨b, off + i, none⟩ = some (.int .i64 (zs.getD i 0))) :
    Calls Try.prog 5 #[.slice (some ⟨b, off, none⟩) zs.length cap, .int .i64 which] w fun e w' => e = .returned (.bool true) ∧ Below w.heap.size w w' := by
  have HCELL := Lib.hid hcell; clear hcell
  obtain ⟨n, hn⟩ : ∃ n, zs.length = n := ⟨_, rfl⟩
  rw [hn] at h0 h30 ⊢
  have HN := Lib.hid hn; clear hn
  obtain ⟨V, hV⟩ : ∃ V, IntKind.u64.wrap which = V := ⟨_, rfl⟩
  have v0 : 0 ≤ V ∧ V < 18446744073709551616 := by rw [← hV, IntKind.wrap_u64]; omega
  obtain ⟨v1, v2⟩ := v0
  have hz : ((n : Int) == 0) = false := by rw [beq_eq_false_iff_ne]; omega
  have h31 : (n : Int) ≤ 30 := by omega
  go_enter Try.func5, Try.ntmps5
  go_wp2_with fail
  go_loop [5, 6] (fun sv i => ∃ (k : Nat) (S : ByteArray), k ≤ n ∧ i = .int .i64 (k : Nat) ∧ sv = .string S ∧ S.size ≤ 4 * k ∧ Hid (S.data.toList = uencs ((zs.take k).map tcode))) (fun _ i => n - (intOf i).toNat)
  case atStart => exact ⟨0, ⟨#[]⟩, Nat.zero_le _, rfl, rfl, by decide, rfl⟩
  case round =>
    obtain ⟨k, S, hk, rfl, rfl, hs4, HS⟩ := hrel
    by_cases hlt : k < n
    · have hc := HCELL.out k (by rw [HN.out]; exact hlt)
      have HT := Lib.hid (take_succ zs k (by rw [HN.out]; exact hlt))
      obtain ⟨z, hzk⟩ : ∃ z, z = zs.getD k 0 := ⟨_, rfl⟩
      rw [← hzk] at hc
      have HT2 : Hid (zs.take (k + 1) = zs.take k ++ [z]) := by rw [hzk]; exact HT
      clear HT hzk
      have HL := Lib.hid (tcode_lng z)
      have HP := Lib.hid (uput_code (c := tcode z) (by have := tcode_lng z; omega))
      obtain ⟨U, hU⟩ : ∃ U, IntKind.u64.wrap z = U := ⟨_, rfl⟩
      have u0 : 0 ≤ U ∧ U < 18446744073709551616 := by rw [← hU, IntKind.wrap_u64]; omega
      obtain ⟨u1, u2⟩ := u0
      obtain ⟨R, hR⟩ : ∃ R, U % 53248 = R := ⟨_, rfl⟩
      have r0 : 0 ≤ R ∧ R < 53248 := by omega
      obtain ⟨r1, r2⟩ := r0
      have hcd : ((tcode z : Nat) : Int) = 128 + R := by unfold tcode; rw [hU, hR]; omega
      have k1 := fun W => put_any (128 + R) W
      rw [hcd] at HP
      have hsz := uput_size (128 + R)
      have hz4 : zlng (128 + R) ≤ 4 := by rcases zlng_cases (128 + R) with h | h | h | h | h | h <;> omega
      rw [← hsz] at hz4
      clear hsz hcd
      generalize uput (128 + R) = P at k1 HP hz4
      have HF : Hid ((S ++ P).data.toList = uencs ((zs.take (k + 1)).map tcode)) := by
        rw [HT2.out, List.map_append, uencs_app, app_list, HS.out, HP.out]
        show _ = _ ++ uencs [tcode z]
        rw [uencs_one]
      have hpz : (S ++ P).size ≤ 4 * (k + 1) := by rw [ByteArray.size_append]; omega
      have K1 := Lib.hid k1
      clear k1 HS HP HT2 HL
      go_wp2_with (go_at_call 15; ((with_reducible refine (K1.out _).mono ?_); rintro e w' ⟨rfl, rfl⟩))
      go_round
      case rel => exact ⟨k + 1, S ++ P, by omega, by go_num, rfl, hpz, HF⟩
      case measure => simp [intOf]; omega
    · obtain rfl : k = n := by omega
      have HS2 : Hid (S.data.toList = uencs (zs.map tcode)) := by
        have := HS.out
        rw [← HN.out, List.take_length] at this
        exact this
      clear HS
      have hall : ∀ c ∈ zs.map tcode, 2 ≤ ulng c := fun c hc => by
        obtain ⟨z, _, rfl⟩ := List.mem_map.1 hc
        exact tcode_lng z
      have hne : zs.map tcode ≠ [] := by
        intro h
        have := congrArg List.length h
        rw [List.length_map, HN.out] at this
        simp at this
        omega
      have hv := uval_encs (zs.map tcode) (fun c hc => by have := hall c hc; omega)
      have hsh := turned_short hne hall HS2.out
      have hS0 : 0 < S.size := by
        rw [← len_list, HS2.out]
        have e := List.dropLast_concat_getLast hne
        have hl := hall _ (List.getLast_mem hne)
        rw [← e, uencs_app, uencs_one, List.length_append, uenc_len (by omega)]
        omega
      have k1 := fun W => valid_any S (by omega) W
      rw [HS2.out, hv.1] at k1
      obtain ⟨j, hj⟩ : ∃ j : Nat, V % (S.size : Int) = (j : Int) := ⟨(V % (S.size : Int)).toNat, by have := Int.emod_nonneg V (show (S.size : Int) ≠ 0 by omega); omega⟩
      have hj2 : j < S.size := by have := Int.emod_lt_of_pos V (show (0 : Int) < (S.size : Int) by omega); omega
      have hTl : (S.extract 0 j ++ ⟨#[255]⟩ ++ S.extract (j + 1) S.size).size ≤ 140737488351232 := by
        rw [ByteArray.size_append, ByteArray.size_append, ByteArray.size_extract, ByteArray.size_extract]
        show _ + 1 + _ ≤ _
        omega
      have k2 := fun W => next_any _ hTl (j : Int) W
      rw [turned_next S j hj2] at k2
      have k3 := fun W => valid_any _ hTl W
      rw [turned_bad S j] at k3
      have k4 := fun W => valid_any (S.extract 0 (S.size - 1)) (by rw [ByteArray.size_extract]; omega) W
      rw [hsh] at k4
      have K1 := Lib.hid k1; have K2 := Lib.hid k2; have K3 := Lib.hid k3; have K4 := Lib.hid k4
      clear k1 k2 k3 k4 hTl hsh hv hne hall HS2
      have hs1 : (1 : Int) ≤ (S.size : Int) := by omega
      have hsz : ((S.size : Int) == 0) = false := by rw [beq_eq_false_iff_ne]; omega
      have hjs : (j : Int) < (S.size : Int) := by omega
      go_wp2
      go_quiet (fail)
      go_wp2_with fail
      (with_reducible refine (K2.out _).mono ?_)
      rintro e w' ⟨rfl, rfl⟩
      go_wp2_with fail
      (with_reducible refine (told5_true _).mono ?_)
      rintro e w1 ⟨rfl, hb1⟩
      go_wp2_with fail
      (with_reducible refine (K1.out _).mono ?_)
      rintro e w' ⟨rfl, rfl⟩
      go_wp2_with fail
      (with_reducible refine (K3.out _).mono ?_)
      rintro e w' ⟨rfl, rfl⟩
      go_wp2_with fail
      (with_reducible refine (K4.out _).mono ?_)
      rintro e w' ⟨rfl, rfl⟩
      go_wp2
      go_ret
      exact ⟨rfl, ubtr (ubdn (Below.refl _ _) _) hb1⟩
theorem turned_any (v : Value) (zs : List Int) (which : Int) (w : World) (hv : IntsAt w v zs) :
    Calls Try.prog 5 #[v, .int .i64 which] w fun e w' => e = .returned (.bool true) ∧ Below w.heap.size w w' := by
  rcases hv with ⟨A, cap, rfl, _⟩ | ⟨b, off, cap, rfl, h0, hc⟩
  · exact turned_told A 0 cap which w (Or.inl rfl)
  · by_cases h30 : zs.length ≤ 30
    · exact turned_core b off cap zs which w h0 h30 hc
    · exact turned_told _ _ cap which w (Or.inr (by omega))
end Go.Proofs.Ytoibaeilbolffaa
