/-
  entrepotlaw8.CborParts answers true for any list of values.
-/
import Derived.Test.YtfaaagmjmljhiaaGreatDoorGY
import Derived.Test.YtfaaagmjmljhiaaGreatDoorGS
import Derived.Test.YtfaaagmjmljhiaaGreatDoorGH
namespace Go.Proofs.YtfaaagmjmljhiaaGreatDoor
open Go.RowKit Go.Shelf
set_option linter.unusedVariables false

theorem parts_long (la : Option Addr) (n lc : Nat) (w : World) (hT : Tb w) (hn : n ≤ 9223372036854775807) (h : 5 < n) :
    Calls Tryz.prog 3 #[.slice la n lc] w fun e w' => e = .returned (.bool true) ∧ Below w.heap.size w w' := by
  have h1 : (5 : Int) < (n : Int) := by omega
  have HT := Lib.hid hT
  clear hT
  go_enter Tryz.func3, Tryz.ntmps3
  go_wp2_with (go_at_call 7; ((with_reducible refine (told8_true _ HT.out).mono ?_); rintro e w1 ⟨rfl, hb1⟩))
  go_ret
  exact ⟨rfl, hb1⟩
/-- The first byte of an array of so few. -/
theorem head5 (n : Nat) (h : n ≤ 5) : hds 4 n = [UInt8.ofNat (128 + n)] := by
  unfold hds hby sinf
  rw [if_pos (by omega), hsz_low (by omega)]
  rfl
set_option maxRecDepth 100000 in
set_option maxHeartbeats 4000000 in
theorem parts_core (la : Option Addr) (lc : Nat) (kids : List VT) (bb off : Nat) (w : World) (hT : Tb w) (hK : Kids w la kids bb off) (hn : kids.length ≤ 5) (h1 : kids.length ≤ lc) (h2 : lc ≤ maxLen) :
    Calls Tryz.prog 3 #[.slice la kids.length lc] w fun e w' => e = .returned (.bool true) ∧ Below w.heap.size w w' := by
  have e0 : ¬ (5 : Int) < (kids.length : Int) := by omega
  have HT := Lib.hid hT; have HK := Lib.hid hK; have HLC := Lib.hid (And.intro h1 h2)
  have HHD := Lib.hid (head5 kids.length hn)
  clear hT hK h1 h2
  obtain ⟨n, hnn⟩ : ∃ n, kids.length = n := ⟨_, rfl⟩
  have HNN := Lib.hid hnn
  rw [hnn] at hn e0 HHD HLC ⊢
  clear hnn
  obtain ⟨Z, hZ⟩ : ∃ Z : Int, bits .or .u8 128 (n : Int) = Z := ⟨_, rfl⟩
  have HZ : Hid (((UInt8.ofNat (128 + n)).toNat : Int) = Z) := Lib.hid (by
    rw [← hZ]
    rcases (show n = 0 ∨ n = 1 ∨ n = 2 ∨ n = 3 ∨ n = 4 ∨ n = 5 by omega) with rfl | rfl | rfl | rfl | rfl | rfl <;> rfl)
  obtain ⟨cb, hcb⟩ : ∃ cb, UInt8.ofNat (128 + n) = cb := ⟨_, rfl⟩
  rw [hcb] at HZ HHD
  clear hcb
  have hcv := conv_bytes (w.alloc (.cells #[.int .u8 Z] 5)) w.heap.size 0 1 [cb] (fun i b hi => by
    cases i with
    | zero =>
      simp at hi
      subst hi
      rw [Nat.add_zero, HZ.out]
      exact cell_of_row _ _ 0 _ _ _ (heap_alloc_new _ _)
    | succ i => simp at hi) 1 rfl
  rw [← HHD.out] at hcv
  obtain ⟨S0, hS0⟩ : ∃ S0, str (hds 4 n) = S0 := ⟨_, rfl⟩
  have HS0 := Lib.hid hS0
  rw [hS0] at hcv
  obtain ⟨E, hE⟩ : ∃ E, kids.map encT = E := ⟨_, rfl⟩
  have HE : Hid (∀ (k : Nat) (t : VT), kids[k]? = some t → E[k]? = some (encT t)) := fun k t ht => by rw [← hE, List.getElem?_map, ht]; rfl
  have HEE := Lib.hid hE
  have HEL : Hid (E.length = n) := by show _ = _; rw [← hE, List.length_map]; exact HNN.out
  clear hS0 hE
  go_enter Tryz.func3, Tryz.ntmps3
  go_wp2
  go_loopw [3, 4, 5, 6] (fun sv iv _ _ wr => ∃ (k : Nat) (S : ByteArray), k ≤ n ∧ iv = .int .i64 k ∧ sv = .string S ∧ (S.size : Int) ≤ 9 + 5000 * k ∧ Hid (S = str (hds 4 n ++ (E.take k).flatten)) ∧ Hid (Below w.heap.size w wr) ∧ Hid (∀ (j : Nat) (t : VT), j < k → kids[j]? = some t → fewOk t = true ∧ t.depth ≤ 15 ∧ mayN t = 0)) (fun _ i _ _ _ => n - (intOf i).toNat)
  case atStart =>
    refine ⟨0, S0, Nat.zero_le _, rfl, rfl, ?_, ?_, bal (Below.refl _ _) _, (show Hid _ from fun j t hj => absurd hj (Nat.not_lt_zero _))⟩
    · rw [← HS0.out, str_size]
      have := hds_len 4 n
      omega
    · show S0 = _
      rw [List.take_zero, List.flatten_nil, List.append_nil]
      exact HS0.out.symm
  case round =>
    obtain ⟨k, S, hk, rfl, rfl, hS9, HS, BW, AN⟩ := hrel
    rename World => wr
    have hS8 : (S.size : Int) ≤ 8388608 := by omega
    by_cases hlt : k < n
    · obtain ⟨t, ht, hm⟩ := kid_at (kids := kids) (k := k) (by rw [HNN.out]; exact hlt)
      have hr := (HK.out.cells k t ht).keep BW.out
      obtain rfl : la = some ⟨bb, off, none⟩ := HK.out.la (by rw [HNN.out]; omega)
      have hti := (HK.out.ins k t ht).keep BW.out
      have hfew := vfew t wr hti
      have hfq := fun h => few_q (T := t) h hti (tb_on HT.out BW.out)
      have HDP := Lib.hid (fun (hd : t.depth ≤ 40) W (hW : Below wr.heap.size wr W) => rdepth t (by omega) W (hti.keep hW))
      have HEN := Lib.hid (fun (hn : t.nodes ≤ 10000) (hQ : Qv t wr) W (hW : Below wr.heap.size wr W) => enc_any t hn W (hQ.keep hW))
      have HKT := Lib.hid ht
      have HEk := Lib.hid (HE.out k t ht)
      obtain ⟨T, hTT⟩ : ∃ T, t = T := ⟨_, rfl⟩
      rw [hTT] at hfq HKT
      obtain ⟨o2, l2⟩ := t
      obtain ⟨kd2, g2, x2', b2, s2, la2, lc2, ka2, kc2, ks2⟩ := o2
      obtain ⟨c0, c1, c2, c3, c4, c5, c6, c7, c8, c9⟩ := hr.ten
      simp only [VT.val, VT.cells, VT.o_mk, VT.kids_mk] at hfew HDP HEN
      rw [hTT] at hfew HDP HEN HEk
      have HF := Lib.hid hfew
      clear hr hti hfew ht hm hTT
      have hlt2 : (k : Int) < (n : Int) := by omega
      cases hq : fewOk T with
      | false =>
        rw [hq] at HF
        go_wp2_with (first | (go_at_call 8; ((with_reducible refine HF.out.mono ?_); rintro e w1 ⟨rfl, hb1⟩)) | (go_at_call 7; ((with_reducible refine (told8_true _ (tb_on (tb_on HT.out BW.out) hb1)).mono ?_); rintro e w2 ⟨rfl, hb2⟩)))
        go_ret
        exact ⟨rfl, btr (btr BW.out hb1) hb2⟩
      | true =>
        rw [hq] at HF
        obtain ⟨q1, q2, q3⟩ := hfq hq
        have HQ := Lib.hid q1
        have KD := Lib.hid (HDP.out q3)
        have KE := Lib.hid (HEN.out (by omega) q1)
        clear hfq q1 HDP HEN
        obtain ⟨D, hD⟩ : ∃ D, T.depth = D := ⟨_, rfl⟩
        rw [hD] at KD q3
        go_wp2_with fail
        ((with_reducible refine HF.out.mono ?_); rintro e w1 ⟨rfl, hb1⟩)
        have HB1 := Lib.hid hb1
        replace c0 := cell_keep hb1 c0; replace c1 := cell_keep hb1 c1; replace c2 := cell_keep hb1 c2; replace c3 := cell_keep hb1 c3; replace c4 := cell_keep hb1 c4
        replace c5 := cell_keep hb1 c5; replace c6 := cell_keep hb1 c6; replace c7 := cell_keep hb1 c7; replace c8 := cell_keep hb1 c8; replace c9 := cell_keep hb1 c9
        clear hb1
        go_wp2_with fail
        ((with_reducible refine (KD.out _ HB1.out).mono ?_); rintro e w2 ⟨rfl, hb2⟩)
        have HB2 := Lib.hid (btr HB1.out hb2)
        replace c0 := cell_keep hb2 c0; replace c1 := cell_keep hb2 c1; replace c2 := cell_keep hb2 c2; replace c3 := cell_keep hb2 c3; replace c4 := cell_keep hb2 c4
        replace c5 := cell_keep hb2 c5; replace c6 := cell_keep hb2 c6; replace c7 := cell_keep hb2 c7; replace c8 := cell_keep hb2 c8; replace c9 := cell_keep hb2 c9
        clear hb2
        by_cases h15 : 15 < D
        · have h15' : (15 : Int) < (D : Int) := by omega
          go_wp2_with (go_at_call 7; ((with_reducible refine (told8_true _ (tb_on (tb_on HT.out BW.out) HB2.out)).mono ?_); rintro e w3 ⟨rfl, hb3⟩))
          go_ret
          exact ⟨rfl, btr (btr BW.out HB2.out) hb3⟩
        · have h15' : ¬ (15 : Int) < (D : Int) := by omega
          go_wp2_with fail
          ((with_reducible refine (KE.out _ HB2.out).mono ?_); rintro e w3 ⟨hE3, hb3⟩)
          have HB3 := Lib.hid (btr HB2.out hb3)
          rcases hE3 with ⟨m0, rfl⟩ | ⟨m0, ml, rfl⟩ | ⟨m0, ml, g, cap, rfl, hg, hB⟩
          · have m1 : (mayN T != 0) = true := by simpa using m0
            go_wp2_with (go_at_call 7; ((with_reducible refine (told8_true _ (tb_on (tb_on HT.out BW.out) HB3.out)).mono ?_); rintro e w4 ⟨rfl, hb4⟩))
            go_ret
            exact ⟨rfl, btr (btr BW.out HB3.out) hb4⟩
          · go_wp2_with (go_at_call 7; ((with_reducible refine (told8_true _ (tb_on (tb_on HT.out BW.out) HB3.out)).mono ?_); rintro e w4 ⟨rfl, hb4⟩))
            go_ret
            exact ⟨rfl, btr (btr BW.out HB3.out) hb4⟩
          · obtain ⟨N, hN⟩ : ∃ N, (encT T).length = N := ⟨_, rfl⟩
            have hcv3 := conv_bytes w3 g 0 cap (encT T) hB N hN
            have HB3' := Lib.hid hb3
            have HM0 := Lib.hid m0
            have HNl := Lib.hid hN
            rw [hN] at ml ⊢
            obtain ⟨U, hU⟩ : ∃ U, str (encT T) = U := ⟨_, rfl⟩
            have HU := Lib.hid hU
            rw [hU] at hcv3
            have hUs : (U.size : Int) = (N : Int) := by rw [← hU, str_size, hN]
            clear hU hN hB m0 hb3
            by_cases h5 : 5000 < N
            · have h5' : (5000 : Int) < (N : Int) := by omega
              go_wp2_with (go_at_call 7; ((with_reducible refine (told8_true _ (tb_on (tb_on HT.out BW.out) HB3.out)).mono ?_); rintro e w4 ⟨rfl, hb4⟩))
              go_ret
              exact ⟨rfl, btr (btr BW.out HB3.out) hb4⟩
            · have h5' : ¬ (5000 : Int) < (N : Int) := by omega
              have hU8 : (U.size : Int) ≤ 8388608 := by omega
              go_wp2
              go_roundw
              case rel =>
                refine ⟨k + 1, S ++ U, by omega, by go_num, rfl, ?_, ?_, btr BW.out HB3.out, ?_⟩
                · rw [ByteArray.size_append]
                  omega
                · show S ++ U = _
                  rw [HS.out, ← HU.out, str_app, flat_next HEk.out, List.append_assoc]
                · show Hid _
                  intro j t hj hjt
                  by_cases e : j = k
                  · subst e
                    rw [HKT.out] at hjt
                    obtain rfl := Option.some.inj hjt
                    exact ⟨hq, by omega, HM0.out⟩
                  · exact AN.out j t (by omega) hjt
              case measure => simp [intOf]; omega
    · have hge : ¬ (k : Int) < (n : Int) := by omega
      obtain rfl : k = n := by omega
      have hall : ∀ t ∈ kids, fewOk t = true ∧ t.depth ≤ 15 ∧ mayN t = 0 := fun t ht => by
        obtain ⟨j, hj⟩ := List.getElem?_of_mem ht
        have hl := (List.getElem?_eq_some_iff.1 hj).1
        exact AN.out j t (by have := HNN.out; omega) hj
      have hKw := HK.out.keep BW.out
      have hTw := tb_on HT.out BW.out
      have hQ := listP_q hTw hKw (by rw [HNN.out]; exact HLC.out.1) HLC.out.2 (fun t ht => (hall t ht).1)
      have hmay := listP_may (la := la) (lc := lc) (kids := kids) (by rw [HNN.out]; omega) (fun t ht => ⟨(hall t ht).2.2, (hall t ht).2.1⟩)
      have hnod := listP_nodes (la := la) (lc := lc) (kids := kids) (by rw [HNN.out]; omega) (fun t ht => by
        obtain ⟨j, hj⟩ := List.getElem?_of_mem ht
        exact (few_q (hall t ht).1 (hKw.ins j t hj) hTw).2.1)
      have KE0 := enc_any _ hnod wr hQ
      have hLe := listP_enc la lc kids
      obtain ⟨L, hL⟩ : ∃ L, encT (listP la lc kids) = L := ⟨_, rfl⟩
      have hSL : S = str L := by
        rw [HS.out, ← hL, hLe, List.take_of_length_le (by rw [HEL.out]; exact Nat.le_refl _), HEE.out, HNN.out]
      obtain ⟨N, hN⟩ : ∃ N, L.length = N := ⟨_, rfl⟩
      have hNs : (N : Int) ≤ 9 + 5000 * k := by rw [← hN, ← str_size, ← hSL]; exact hS9
      have KE : Hid (Calls Tryz.prog 10 #[V10 7 false 0 0 0 0 0 ⟨#[]⟩ la k lc none 0 0] wr fun e w' => ∃ g cap, e = .returned (.tuple #[.slice (some ⟨g, 0, none⟩) N cap, .int .i64 0]) ∧ Hid (BytesAt w' g 0 L) ∧ Below wr.heap.size wr w') := by
        rw [listP_val, HNN.out] at KE0
        refine KE0.mono ?_
        rintro e w' ⟨hE, hb⟩
        unfold EncIs at hE
        rw [hL, hN] at hE
        rcases hE with ⟨m0, _⟩ | ⟨_, ml, _⟩ | ⟨_, _, g, cap, rfl, _, hB⟩
        · exact absurd hmay m0
        · omega
        · exact ⟨g, cap, rfl, hB, hb⟩
      have HSL := Lib.hid hSL
      have hLN := Lib.hid hN
      have hseq : (S.toList == S.toList) = true := by simp
      clear hall hKw hQ hmay hnod KE0 hLe hL hSL hN HS AN
      go_wp2_with fail
      ((with_reducible refine (KE.out).mono ?_); rintro e w1 ⟨g, cap, rfl, HB, hb1⟩)
      have HB1 := Lib.hid hb1
      go_wp2_with fail
      ((with_reducible refine (told8_true _ (tb_on hTw HB1.out)).mono ?_); rintro e w2 ⟨rfl, hb2⟩)
      have hcv5 := conv_bytes w2 g 0 cap L (HB.out.keep hb2) N hLN.out
      rw [← HSL.out] at hcv5
      have HB2 := Lib.hid (btr HB1.out hb2)
      clear hb1 hb2
      go_wp2
      go_ret
      exact ⟨by simp, btr BW.out HB2.out⟩
/-- The law, for any list of values. -/
theorem cparts_any (la : Option Addr) (lc : Nat) (kids : List VT) (w : World) (hT : Tb w) (hK : KidsAt w la kids) (h1 : kids.length ≤ lc) (h2 : lc ≤ maxLen) (hi : ∀ (i : Nat) (t : VT), kids[i]? = some t → t.In w) :
    Calls Tryz.prog 3 #[.slice la kids.length lc] w fun e w' => e = .returned (.bool true) ∧ Below w.heap.size w w' := by
  have hl : kids.length ≤ 9223372036854775807 := by have := h2; unfold maxLen at this; omega
  by_cases h : 5 < kids.length
  · exact parts_long la kids.length lc w hT hl h
  · obtain ⟨bb, off, a, b⟩ := hK
    exact parts_core la lc kids bb off w hT ⟨a, b, hi, hl⟩ (by omega) h1 h2
end Go.Proofs.YtfaaagmjmljhiaaGreatDoor
