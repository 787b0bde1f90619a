/-
  entrepotlaw7.JsonParts answers true for any list of values: as an object; the law.
-/
import Derived.Test.YtbfgkogccfioiaaGreatDoorJsPartsW
namespace Go.Proofs.YtbfgkogccfioiaaGreatDoor
open Go.RowKit Go.Shelf
set_option linter.unusedVariables false

set_option maxRecDepth 100000 in
set_option maxHeartbeats 40000000 in
theorem jparts_map (la : Option Addr) (lc : Nat) (kids : List VT) (bb off : Nat) (w : World) (hT : Tabs w) (hK : Kids w la kids bb off) (hn : kids.length ≤ 5) (h1 : kids.length ≤ lc) (h2 : lc ≤ maxLen) :
    Calls Tryz.prog 5 #[.slice la kids.length lc, .bool true] w fun e w' => e = .returned (.bool true) ∧ Below w.heap.size w w' := by
  have e0 : ¬ (5 : Int) < (kids.length : Int) := by omega
  have HT := Lib.hid hT; have HK := Lib.hid hK; have HLC := Lib.hid (And.intro h1 h2)
  clear hT hK h1 h2
  obtain ⟨n, hnn⟩ : ∃ n, kids.length = n := ⟨_, rfl⟩
  have HNN := Lib.hid hnn
  rw [hnn] at hn e0 HLC ⊢
  clear hnn
  obtain ⟨P, hP⟩ : ∃ P, jpcs (jkey (jnm n)) (kids.map jencT) = P := ⟨_, rfl⟩
  have HP : Hid (∀ (k : Nat) (t : VT), kids[k]? = some t → P[k]? = some (jpre (jkey (jnm n)) k ++ jencT t)) := Lib.hid (fun k t ht => by rw [← hP]; exact pcs_at ht)
  have HPP := Lib.hid hP
  have HPL : Hid (P.length = n) := by show _ = _; rw [← hP, jpcs_len, List.length_map]; exact HNN.out
  clear hP
  have B0 : Hid (Below w.heap.size w (w.alloc (.cells #[.int .i64 7, .bool false, .int .u64 0, .int .u64 0, .int .u64 0, .int .u64 0, .int .u64 0, .string ⟨#[]⟩, .slice la n lc, .slice none 0 0] 30))) := Lib.hid (bal (Below.refl _ _) _)
  have R0 : Hid (Row10 (w.alloc (.cells #[.int .i64 7, .bool false, .int .u64 0, .int .u64 0, .int .u64 0, .int .u64 0, .int .u64 0, .string ⟨#[]⟩, .slice la n lc, .slice none 0 0] 30)) w.heap.size (.int .i64 7) (.bool false) (.int .u64 0) (.int .u64 0) (.int .u64 0) (.int .u64 0) (.int .u64 0) (.string ⟨#[]⟩) (.slice la n lc) (.slice none 0 0)) := Lib.hid (Row10.new w (.int .i64 7) (.bool false) (.int .u64 0) (.int .u64 0) (.int .u64 0) (.int .u64 0) (.int .u64 0) (.string ⟨#[]⟩) (.slice la n lc) (.slice none 0 0))
  obtain ⟨i0, hi0, hz0, hz1, hz2⟩ := info_at info_str
  go_enter Tryz.func5, Tryz.ntmps5
  go_wp2
  go_loopw [6, 7, 8, 9, 10] (fun sv iv _ _ _ wr => ∃ (k : Nat) (S : ByteArray) (ka : Option Addr) (kc : Nat), k ≤ n ∧ iv = .int .i64 k ∧ sv = .string S ∧ (S.size : Int) ≤ 9 + 5010 * k ∧ Hid (S = str ((P.take k).flatten)) ∧ Hid (Row10 wr w.heap.size (.int .i64 7) (.bool false) (.int .u64 0) (.int .u64 0) (.int .u64 0) (.int .u64 0) (.int .u64 0) (.string ⟨#[]⟩) (.slice la n lc) (.slice ka k kc)) ∧ Hid (Sr7 wr (w.heap.size + 1) (.slice ka k kc) (jnm k)) ∧ Hid (Below w.heap.size w wr) ∧ Hid (∀ (j : Nat) (t : VT), j < k → kids[j]? = some t → fewOk t = true ∧ t.depth ≤ 15 ∧ mayN t = 0 ∧ hasT notJsonT t = false)) (fun _ i _ _ _ _ => n - (intOf i).toNat)
  case atStart =>
    exact ⟨0, ⟨#[]⟩, none, 0, Nat.zero_le _, rfl, rfl, by decide, (show Hid _ from rfl), R0, Lib.hid (Sr7.nil _ _), B0, (show Hid _ from fun j t hj => absurd hj (Nat.not_lt_zero _))⟩
  case round =>
    obtain ⟨k, S, ka, kc, hk, rfl, rfl, hS9, HS, HR, HO, BW, AN⟩ := hrel
    clear B0 R0
    rename World => wr
    have hS8 : (S.size : Int) ≤ 8388608 := by omega
    by_cases hlt : k < n
    · obtain ⟨t, ht, hm⟩ := kid_at (kids := kids) (k := k) (by rw [HNN.out]; exact hlt)
      have hr := (HK.out.cells k t ht).keep BW.out
      obtain rfl : la = some ⟨bb, off, none⟩ := HK.out.la (by rw [HNN.out]; omega)
      have hti := (HK.out.ins k t ht).keep BW.out
      have hfew := vfew t wr hti
      have hfq := fun h => few_q (T := t) h hti (tb_on HT.out.2 BW.out)
      have HDP := Lib.hid (fun (hd : t.depth ≤ 40) W (hW : Below wr.heap.size wr W) => rdepth t (by omega) W (hti.keep hW))
      have HEN := Lib.hid (fun (hn : t.nodes ≤ 10000) (hQ : Qv t wr) W (hW : Below wr.heap.size wr W) => jenc_any t hn W (hQ.keep hW) (tabs_on (tabs_on HT.out BW.out) hW))
      have HKT := Lib.hid ht
      have HPk := Lib.hid (HP.out k t ht)
      obtain ⟨T, hTT⟩ : ∃ T, t = T := ⟨_, rfl⟩
      rw [hTT] at hfq HKT
      obtain ⟨o2, l2⟩ := t
      obtain ⟨kd2, g2, x2', b2, s2, la2, lc2, ka2, kc2, ks2⟩ := o2
      obtain ⟨c0, c1, c2, c3, c4, c5, c6, c7, c8, c9⟩ := hr.ten
      simp only [VT.val, VT.cells, VT.o_mk, VT.kids_mk] at hfew HDP HEN
      rw [hTT] at hfew HDP HEN HPk
      have HF := Lib.hid hfew
      clear hr hti hfew ht hm hTT
      have hlt2 : (k : Int) < (n : Int) := by omega
      cases hq : fewOk T with
      | false =>
        rw [hq] at HF
        go_wp2_with (first | (go_at_call 7; ((with_reducible refine HF.out.mono ?_); rintro e w1 ⟨rfl, hb1⟩)) | (go_at_call 8; ((with_reducible refine (told7_true _ (tabs_on (tabs_on HT.out BW.out) hb1)).mono ?_); rintro e w2 ⟨rfl, hb2⟩)))
        go_ret
        exact ⟨rfl, btr (btr BW.out hb1) hb2⟩
      | true =>
        rw [hq] at HF
        obtain ⟨q1, q2, q3⟩ := hfq hq
        have HQ := Lib.hid q1
        have KD := Lib.hid (HDP.out q3)
        have KE := Lib.hid (HEN.out (by omega) q1)
        clear hfq q1 HDP HEN
        obtain ⟨D, hD⟩ : ∃ D, T.depth = D := ⟨_, rfl⟩
        rw [hD] at KD q3
        go_wp2_with fail
        ((with_reducible refine HF.out.mono ?_); rintro e w1 ⟨rfl, hb1⟩)
        have HB1 := Lib.hid hb1
        replace c0 := cell_keep hb1 c0; replace c1 := cell_keep hb1 c1; replace c2 := cell_keep hb1 c2; replace c3 := cell_keep hb1 c3; replace c4 := cell_keep hb1 c4
        replace c5 := cell_keep hb1 c5; replace c6 := cell_keep hb1 c6; replace c7 := cell_keep hb1 c7; replace c8 := cell_keep hb1 c8; replace c9 := cell_keep hb1 c9
        clear hb1
        go_wp2_with fail
        ((with_reducible refine (KD.out _ HB1.out).mono ?_); rintro e w2 ⟨rfl, hb2⟩)
        have HB2 := Lib.hid (btr HB1.out hb2)
        replace c0 := cell_keep hb2 c0; replace c1 := cell_keep hb2 c1; replace c2 := cell_keep hb2 c2; replace c3 := cell_keep hb2 c3; replace c4 := cell_keep hb2 c4
        replace c5 := cell_keep hb2 c5; replace c6 := cell_keep hb2 c6; replace c7 := cell_keep hb2 c7; replace c8 := cell_keep hb2 c8; replace c9 := cell_keep hb2 c9
        clear hb2
        by_cases h15 : 15 < D
        · have h15' : (15 : Int) < (D : Int) := by omega
          go_wp2_with (go_at_call 8; ((with_reducible refine (told7_true _ (tabs_on (tabs_on HT.out BW.out) HB2.out)).mono ?_); rintro e w3 ⟨rfl, hb3⟩))
          go_ret
          exact ⟨rfl, btr (btr BW.out HB2.out) hb3⟩
        · have h15' : ¬ (15 : Int) < (D : Int) := by omega
          go_wp2_with fail
          ((with_reducible refine (KE.out _ HB2.out).mono ?_); rintro e w3 ⟨hE3, hb3⟩)
          have HB3 := Lib.hid (btr HB2.out hb3)
          rcases hE3 with ⟨m0, rfl⟩ | ⟨m0, hnj, rfl⟩ | ⟨m0, hnj, ml, rfl⟩ | ⟨m0, hnj, ml, g, cap, rfl, hg, hB⟩
          · have m1 : (mayN T != 0) = true := by simpa using m0
            go_wp2_with (go_at_call 8; ((with_reducible refine (told7_true _ (tabs_on (tabs_on HT.out BW.out) HB3.out)).mono ?_); rintro e w4 ⟨rfl, hb4⟩))
            go_ret
            exact ⟨rfl, btr (btr BW.out HB3.out) hb4⟩
          · go_wp2_with (go_at_call 8; ((with_reducible refine (told7_true _ (tabs_on (tabs_on HT.out BW.out) HB3.out)).mono ?_); rintro e w4 ⟨rfl, hb4⟩))
            go_ret
            exact ⟨rfl, btr (btr BW.out HB3.out) hb4⟩
          · go_wp2_with (go_at_call 8; ((with_reducible refine (told7_true _ (tabs_on (tabs_on HT.out BW.out) HB3.out)).mono ?_); rintro e w4 ⟨rfl, hb4⟩))
            go_ret
            exact ⟨rfl, btr (btr BW.out HB3.out) hb4⟩
          · obtain ⟨N, hN⟩ : ∃ N, (jencT T).length = N := ⟨_, rfl⟩
            have hcv3 := fun o => conv_bytes (w3.alloc o) g 0 cap (jencT T) (hB.keep (bal (Below.refl _ w3) o)) N hN
            have HBY := Lib.hid hB
            have HB3' := Lib.hid hb3
            have HM0 := Lib.hid (And.intro m0 hnj)
            have HNl := Lib.hid hN
            rw [hN] at ml ⊢
            obtain ⟨U, hU⟩ : ∃ U, str (jencT T) = U := ⟨_, rfl⟩
            have HU := Lib.hid hU
            rw [hU] at hcv3
            have hUs : (U.size : Int) = (N : Int) := by rw [← hU, str_size, hN]
            have HW3 := Lib.hid (btr BW.out HB3.out)
            have HR3 := Lib.hid (Row10.keep HB3.out HR.out)
            have HO3 := Lib.hid (HO.out.keep HB3.out)
            have hgw : wr.heap.size ≤ g := Nat.le_trans HB2.out.size hg
            have hgs : g < w3.heap.size := bytes_lt hB (jencT_pos T)
            have hwr : w.heap.size < wr.heap.size := HR.out.lt
            have hw3s : wr.heap.size ≤ w3.heap.size := HB3.out.size
            clear hU hN hB m0 hb3 hnj
            by_cases h5 : 5000 < N
            · have h5' : (5000 : Int) < (N : Int) := by omega
              go_wp2_with (go_at_call 8; ((with_reducible refine (told7_true _ (tabs_on (tabs_on HT.out BW.out) HB3.out)).mono ?_); rintro e w4 ⟨rfl, hb4⟩))
              go_ret
              exact ⟨rfl, btr (btr BW.out HB3.out) hb4⟩
            · have h5' : ¬ (5000 : Int) < (N : Int) := by omega
              have hU8 : (U.size : Int) ≤ 8388608 := by omega
              rcases (show k = 0 ∨ k = 1 ∨ k = 2 ∨ k = 3 ∨ k = 4 by omega) with rfl | rfl | rfl | rfl | rfl
              · have hcv1 := conv_one w3 97 97 rfl
                have HJ : Hid (jpre (jkey (jnm n)) 0 = [34, 97, 34, 58]) := Lib.hid (by unfold jpre; rw [jkey_at (by omega) hn]; rfl)
                have ND : Hid (some w.heap.size ≠ (Value.slice ka 0 kc).ownBlock) := Lib.hid (Sr7.away HO3.out (Or.inl (by omega)))
                have NG : Hid (some g ≠ (Value.slice ka 0 kc).ownBlock) := Lib.hid (Sr7.away HO.out (Or.inr (by omega)))
                obtain ⟨r0, r1, r2, r3, r4, r5, r6, r7, r8, r9⟩ := HR3.out.parts
                have rl := HR3.out.lt
                have rf := HR3.out.free
                go_wp2_with (at_builtin; refine wpList_append_str _ rfl (.tmp 68) (.tmp 70) rfl (w.heap.size + 1) (.slice ka 0 kc) (jnm 0) rfl ((HO3.out.alloc (.cells #[.int .u8 97] 5)).alloc (.cells #[.string ⟨#[97]⟩] 9)) _ 1 ⟨#[97]⟩ rfl (cell_of_row _ _ 0 _ _ _ (hnewV (by simp))) 1 (by rw [jnm_len]) (by omega) (by simp; omega) ?_; intro q capk w4 V4 G4 at4; have HO4 := Lib.hid V4; have HG4 := Lib.hid G4; have HR4 := Lib.hid (Row10.grown ((HR3.out.alloc (.cells #[.int .u8 97] 5)).alloc (.cells #[.string ⟨#[97]⟩] 9)) G4 ND.out); obtain ⟨r0, r1, r2, r3, r4, r5, r6, r7, r8, r9⟩ := HR4.out.parts; have rl4 := HR4.out.lt; have rf4 := HR4.out.free; have hcv5 := conv_bytes (w4.setCell ⟨w.heap.size, 9, none⟩ (.slice (some ⟨q, 0, none⟩) 1 capk)) g 0 cap (jencT T) (HBY.out.block ((Below.heap_setCell w4 ⟨w.heap.size, 9, none⟩ _ g (by show g ≠ w.heap.size; omega)).trans ((G4.block g (by simp; omega) NG.out).trans ((bal (bal (Below.refl _ w3) (.cells #[.int .u8 97] 5)) (.cells #[.string ⟨#[97]⟩] 9)).block g (by omega))))) N HNl.out; rw [HU.out] at hcv5; clear V4 G4 at4)
                have s4 : w3.heap.size + 2 ≤ w4.heap.size := (by have h9 := HG4.out.size; simp at h9; omega)
                have B4 : Below w.heap.size w w4 := ⟨HG4.out.os.trans HW3.out.os, HG4.out.tape.trans HW3.out.tape, HG4.out.output.trans HW3.out.output, by have := HW3.out.size; omega, fun j hj => by
                  have h8 := HW3.out.size
                  have h9 := HG4.out.block j (by simp; omega) (fun e => by
                    have := (World.ownsRow.lt HO3.out j e.symm).1
                    omega)
                  exact h9.trans (((bal (bal (Below.refl _ w3) (.cells #[.int .u8 97] 5)) (.cells #[.string ⟨#[97]⟩] 9)).block j (by omega)).trans (HW3.out.block j hj))⟩
                go_roundw
                case rel =>
                  refine ⟨0 + 1, ((((S ++ ⟨#[34]⟩) ++ ⟨#[97]⟩) ++ ⟨#[34, 58]⟩) ++ U), some ⟨q, 0, none⟩, capk, by omega, by go_num, rfl, ?_, ?_, HR4.out.set9 _, ?_, bsc B4 (Nat.le_refl _) _, ?_⟩
                  · rw [ByteArray.size_append, ByteArray.size_append, ByteArray.size_append, ByteArray.size_append, show (⟨#[34]⟩ : ByteArray).size = 1 from rfl, show (⟨#[97]⟩ : ByteArray).size = 1 from rfl, show (⟨#[34, 58]⟩ : ByteArray).size = 2 from rfl]
                    omega
                  · show ((((S ++ ⟨#[34]⟩) ++ ⟨#[97]⟩) ++ ⟨#[34, 58]⟩) ++ U) = _
                    rw [flat_next HPk.out, HJ.out, HS.out, ← HU.out]
                    show ((((str ((P.take 0).flatten) ++ str [34]) ++ str [97]) ++ str [34, 58]) ++ str (jencT T)) = str ((P.take 0).flatten ++ ([34, 97, 34, 58] ++ jencT T))
                    simp only [str_app, List.append_assoc]
                    rfl
                  · show Hid (Sr7 _ _ _ (jnm (0 + 1)))
                    rw [jnm_next]
                    exact Lib.hid (HO4.out.setV (by omega) _)
                  · show Hid _
                    intro j t hj hjt
                    by_cases e : j = 0
                    · subst e
                      rw [HKT.out] at hjt
                      obtain rfl := Option.some.inj hjt
                      exact ⟨hq, by omega, HM0.out⟩
                    · exact AN.out j t (by omega) hjt
                case measure => simp [intOf]; omega
              · have hcv1 := conv_one w3 98 98 rfl
                have HJ : Hid (jpre (jkey (jnm n)) 1 = [44, 34, 98, 34, 58]) := Lib.hid (by unfold jpre; rw [jkey_at (by omega) hn]; rfl)
                have ND : Hid (some w.heap.size ≠ (Value.slice ka 1 kc).ownBlock) := Lib.hid (Sr7.away HO3.out (Or.inl (by omega)))
                have NG : Hid (some g ≠ (Value.slice ka 1 kc).ownBlock) := Lib.hid (Sr7.away HO.out (Or.inr (by omega)))
                obtain ⟨r0, r1, r2, r3, r4, r5, r6, r7, r8, r9⟩ := HR3.out.parts
                have rl := HR3.out.lt
                have rf := HR3.out.free
                go_wp2_with (at_builtin; refine wpList_append_str _ rfl (.tmp 68) (.tmp 70) rfl (w.heap.size + 1) (.slice ka 1 kc) (jnm 1) rfl ((HO3.out.alloc (.cells #[.int .u8 98] 5)).alloc (.cells #[.string ⟨#[98]⟩] 9)) _ 1 ⟨#[98]⟩ rfl (cell_of_row _ _ 0 _ _ _ (hnewV (by simp))) 2 (by rw [jnm_len]) (by omega) (by simp; omega) ?_; intro q capk w4 V4 G4 at4; have HO4 := Lib.hid V4; have HG4 := Lib.hid G4; have HR4 := Lib.hid (Row10.grown ((HR3.out.alloc (.cells #[.int .u8 98] 5)).alloc (.cells #[.string ⟨#[98]⟩] 9)) G4 ND.out); obtain ⟨r0, r1, r2, r3, r4, r5, r6, r7, r8, r9⟩ := HR4.out.parts; have rl4 := HR4.out.lt; have rf4 := HR4.out.free; have hcv5 := conv_bytes (w4.setCell ⟨w.heap.size, 9, none⟩ (.slice (some ⟨q, 0, none⟩) 2 capk)) g 0 cap (jencT T) (HBY.out.block ((Below.heap_setCell w4 ⟨w.heap.size, 9, none⟩ _ g (by show g ≠ w.heap.size; omega)).trans ((G4.block g (by simp; omega) NG.out).trans ((bal (bal (Below.refl _ w3) (.cells #[.int .u8 98] 5)) (.cells #[.string ⟨#[98]⟩] 9)).block g (by omega))))) N HNl.out; rw [HU.out] at hcv5; clear V4 G4 at4)
                have s4 : w3.heap.size + 2 ≤ w4.heap.size := (by have h9 := HG4.out.size; simp at h9; omega)
                have B4 : Below w.heap.size w w4 := ⟨HG4.out.os.trans HW3.out.os, HG4.out.tape.trans HW3.out.tape, HG4.out.output.trans HW3.out.output, by have := HW3.out.size; omega, fun j hj => by
                  have h8 := HW3.out.size
                  have h9 := HG4.out.block j (by simp; omega) (fun e => by
                    have := (World.ownsRow.lt HO3.out j e.symm).1
                    omega)
                  exact h9.trans (((bal (bal (Below.refl _ w3) (.cells #[.int .u8 98] 5)) (.cells #[.string ⟨#[98]⟩] 9)).block j (by omega)).trans (HW3.out.block j hj))⟩
                go_roundw
                case rel =>
                  refine ⟨1 + 1, (((((S ++ ⟨#[44]⟩) ++ ⟨#[34]⟩) ++ ⟨#[98]⟩) ++ ⟨#[34, 58]⟩) ++ U), some ⟨q, 0, none⟩, capk, by omega, by go_num, rfl, ?_, ?_, HR4.out.set9 _, ?_, bsc B4 (Nat.le_refl _) _, ?_⟩
                  · rw [ByteArray.size_append, ByteArray.size_append, ByteArray.size_append, ByteArray.size_append, ByteArray.size_append, show (⟨#[34]⟩ : ByteArray).size = 1 from rfl, show (⟨#[98]⟩ : ByteArray).size = 1 from rfl, show (⟨#[34, 58]⟩ : ByteArray).size = 2 from rfl, show (⟨#[44]⟩ : ByteArray).size = 1 from rfl]
                    omega
                  · show (((((S ++ ⟨#[44]⟩) ++ ⟨#[34]⟩) ++ ⟨#[98]⟩) ++ ⟨#[34, 58]⟩) ++ U) = _
                    rw [flat_next HPk.out, HJ.out, HS.out, ← HU.out]
                    show (((((str ((P.take 1).flatten) ++ str [44]) ++ str [34]) ++ str [98]) ++ str [34, 58]) ++ str (jencT T)) = str ((P.take 1).flatten ++ ([44, 34, 98, 34, 58] ++ jencT T))
                    simp only [str_app, List.append_assoc]
                    rfl
                  · show Hid (Sr7 _ _ _ (jnm (1 + 1)))
                    rw [jnm_next]
                    exact Lib.hid (HO4.out.setV (by omega) _)
                  · show Hid _
                    intro j t hj hjt
                    by_cases e : j = 1
                    · subst e
                      rw [HKT.out] at hjt
                      obtain rfl := Option.some.inj hjt
                      exact ⟨hq, by omega, HM0.out⟩
                    · exact AN.out j t (by omega) hjt
                case measure => simp [intOf]; omega
              · have hcv1 := conv_one w3 99 99 rfl
                have HJ : Hid (jpre (jkey (jnm n)) 2 = [44, 34, 99, 34, 58]) := Lib.hid (by unfold jpre; rw [jkey_at (by omega) hn]; rfl)
                have ND : Hid (some w.heap.size ≠ (Value.slice ka 2 kc).ownBlock) := Lib.hid (Sr7.away HO3.out (Or.inl (by omega)))
                have NG : Hid (some g ≠ (Value.slice ka 2 kc).ownBlock) := Lib.hid (Sr7.away HO.out (Or.inr (by omega)))
                obtain ⟨r0, r1, r2, r3, r4, r5, r6, r7, r8, r9⟩ := HR3.out.parts
                have rl := HR3.out.lt
                have rf := HR3.out.free
                go_wp2_with (at_builtin; refine wpList_append_str _ rfl (.tmp 68) (.tmp 70) rfl (w.heap.size + 1) (.slice ka 2 kc) (jnm 2) rfl ((HO3.out.alloc (.cells #[.int .u8 99] 5)).alloc (.cells #[.string ⟨#[99]⟩] 9)) _ 1 ⟨#[99]⟩ rfl (cell_of_row _ _ 0 _ _ _ (hnewV (by simp))) 3 (by rw [jnm_len]) (by omega) (by simp; omega) ?_; intro q capk w4 V4 G4 at4; have HO4 := Lib.hid V4; have HG4 := Lib.hid G4; have HR4 := Lib.hid (Row10.grown ((HR3.out.alloc (.cells #[.int .u8 99] 5)).alloc (.cells #[.string ⟨#[99]⟩] 9)) G4 ND.out); obtain ⟨r0, r1, r2, r3, r4, r5, r6, r7, r8, r9⟩ := HR4.out.parts; have rl4 := HR4.out.lt; have rf4 := HR4.out.free; have hcv5 := conv_bytes (w4.setCell ⟨w.heap.size, 9, none⟩ (.slice (some ⟨q, 0, none⟩) 3 capk)) g 0 cap (jencT T) (HBY.out.block ((Below.heap_setCell w4 ⟨w.heap.size, 9, none⟩ _ g (by show g ≠ w.heap.size; omega)).trans ((G4.block g (by simp; omega) NG.out).trans ((bal (bal (Below.refl _ w3) (.cells #[.int .u8 99] 5)) (.cells #[.string ⟨#[99]⟩] 9)).block g (by omega))))) N HNl.out; rw [HU.out] at hcv5; clear V4 G4 at4)
                have s4 : w3.heap.size + 2 ≤ w4.heap.size := (by have h9 := HG4.out.size; simp at h9; omega)
                have B4 : Below w.heap.size w w4 := ⟨HG4.out.os.trans HW3.out.os, HG4.out.tape.trans HW3.out.tape, HG4.out.output.trans HW3.out.output, by have := HW3.out.size; omega, fun j hj => by
                  have h8 := HW3.out.size
                  have h9 := HG4.out.block j (by simp; omega) (fun e => by
                    have := (World.ownsRow.lt HO3.out j e.symm).1
                    omega)
                  exact h9.trans (((bal (bal (Below.refl _ w3) (.cells #[.int .u8 99] 5)) (.cells #[.string ⟨#[99]⟩] 9)).block j (by omega)).trans (HW3.out.block j hj))⟩
                go_roundw
                case rel =>
                  refine ⟨2 + 1, (((((S ++ ⟨#[44]⟩) ++ ⟨#[34]⟩) ++ ⟨#[99]⟩) ++ ⟨#[34, 58]⟩) ++ U), some ⟨q, 0, none⟩, capk, by omega, by go_num, rfl, ?_, ?_, HR4.out.set9 _, ?_, bsc B4 (Nat.le_refl _) _, ?_⟩
                  · rw [ByteArray.size_append, ByteArray.size_append, ByteArray.size_append, ByteArray.size_append, ByteArray.size_append, show (⟨#[34]⟩ : ByteArray).size = 1 from rfl, show (⟨#[99]⟩ : ByteArray).size = 1 from rfl, show (⟨#[34, 58]⟩ : ByteArray).size = 2 from rfl, show (⟨#[44]⟩ : ByteArray).size = 1 from rfl]
                    omega
                  · show (((((S ++ ⟨#[44]⟩) ++ ⟨#[34]⟩) ++ ⟨#[99]⟩) ++ ⟨#[34, 58]⟩) ++ U) = _
                    rw [flat_next HPk.out, HJ.out, HS.out, ← HU.out]
                    show (((((str ((P.take 2).flatten) ++ str [44]) ++ str [34]) ++ str [99]) ++ str [34, 58]) ++ str (jencT T)) = str ((P.take 2).flatten ++ ([44, 34, 99, 34, 58] ++ jencT T))
                    simp only [str_app, List.append_assoc]
                    rfl
                  · show Hid (Sr7 _ _ _ (jnm (2 + 1)))
                    rw [jnm_next]
                    exact Lib.hid (HO4.out.setV (by omega) _)
                  · show Hid _
                    intro j t hj hjt
                    by_cases e : j = 2
                    · subst e
                      rw [HKT.out] at hjt
                      obtain rfl := Option.some.inj hjt
                      exact ⟨hq, by omega, HM0.out⟩
                    · exact AN.out j t (by omega) hjt
                case measure => simp [intOf]; omega
              · have hcv1 := conv_one w3 100 100 rfl
                have HJ : Hid (jpre (jkey (jnm n)) 3 = [44, 34, 100, 34, 58]) := Lib.hid (by unfold jpre; rw [jkey_at (by omega) hn]; rfl)
                have ND : Hid (some w.heap.size ≠ (Value.slice ka 3 kc).ownBlock) := Lib.hid (Sr7.away HO3.out (Or.inl (by omega)))
                have NG : Hid (some g ≠ (Value.slice ka 3 kc).ownBlock) := Lib.hid (Sr7.away HO.out (Or.inr (by omega)))
                obtain ⟨r0, r1, r2, r3, r4, r5, r6, r7, r8, r9⟩ := HR3.out.parts
                have rl := HR3.out.lt
                have rf := HR3.out.free
                go_wp2_with (at_builtin; refine wpList_append_str _ rfl (.tmp 68) (.tmp 70) rfl (w.heap.size + 1) (.slice ka 3 kc) (jnm 3) rfl ((HO3.out.alloc (.cells #[.int .u8 100] 5)).alloc (.cells #[.string ⟨#[100]⟩] 9)) _ 1 ⟨#[100]⟩ rfl (cell_of_row _ _ 0 _ _ _ (hnewV (by simp))) 4 (by rw [jnm_len]) (by omega) (by simp; omega) ?_; intro q capk w4 V4 G4 at4; have HO4 := Lib.hid V4; have HG4 := Lib.hid G4; have HR4 := Lib.hid (Row10.grown ((HR3.out.alloc (.cells #[.int .u8 100] 5)).alloc (.cells #[.string ⟨#[100]⟩] 9)) G4 ND.out); obtain ⟨r0, r1, r2, r3, r4, r5, r6, r7, r8, r9⟩ := HR4.out.parts; have rl4 := HR4.out.lt; have rf4 := HR4.out.free; have hcv5 := conv_bytes (w4.setCell ⟨w.heap.size, 9, none⟩ (.slice (some ⟨q, 0, none⟩) 4 capk)) g 0 cap (jencT T) (HBY.out.block ((Below.heap_setCell w4 ⟨w.heap.size, 9, none⟩ _ g (by show g ≠ w.heap.size; omega)).trans ((G4.block g (by simp; omega) NG.out).trans ((bal (bal (Below.refl _ w3) (.cells #[.int .u8 100] 5)) (.cells #[.string ⟨#[100]⟩] 9)).block g (by omega))))) N HNl.out; rw [HU.out] at hcv5; clear V4 G4 at4)
                have s4 : w3.heap.size + 2 ≤ w4.heap.size := (by have h9 := HG4.out.size; simp at h9; omega)
                have B4 : Below w.heap.size w w4 := ⟨HG4.out.os.trans HW3.out.os, HG4.out.tape.trans HW3.out.tape, HG4.out.output.trans HW3.out.output, by have := HW3.out.size; omega, fun j hj => by
                  have h8 := HW3.out.size
                  have h9 := HG4.out.block j (by simp; omega) (fun e => by
                    have := (World.ownsRow.lt HO3.out j e.symm).1
                    omega)
                  exact h9.trans (((bal (bal (Below.refl _ w3) (.cells #[.int .u8 100] 5)) (.cells #[.string ⟨#[100]⟩] 9)).block j (by omega)).trans (HW3.out.block j hj))⟩
                go_roundw
                case rel =>
                  refine ⟨3 + 1, (((((S ++ ⟨#[44]⟩) ++ ⟨#[34]⟩) ++ ⟨#[100]⟩) ++ ⟨#[34, 58]⟩) ++ U), some ⟨q, 0, none⟩, capk, by omega, by go_num, rfl, ?_, ?_, HR4.out.set9 _, ?_, bsc B4 (Nat.le_refl _) _, ?_⟩
                  · rw [ByteArray.size_append, ByteArray.size_append, ByteArray.size_append, ByteArray.size_append, ByteArray.size_append, show (⟨#[34]⟩ : ByteArray).size = 1 from rfl, show (⟨#[100]⟩ : ByteArray).size = 1 from rfl, show (⟨#[34, 58]⟩ : ByteArray).size = 2 from rfl, show (⟨#[44]⟩ : ByteArray).size = 1 from rfl]
                    omega
                  · show (((((S ++ ⟨#[44]⟩) ++ ⟨#[34]⟩) ++ ⟨#[100]⟩) ++ ⟨#[34, 58]⟩) ++ U) = _
                    rw [flat_next HPk.out, HJ.out, HS.out, ← HU.out]
                    show (((((str ((P.take 3).flatten) ++ str [44]) ++ str [34]) ++ str [100]) ++ str [34, 58]) ++ str (jencT T)) = str ((P.take 3).flatten ++ ([44, 34, 100, 34, 58] ++ jencT T))
                    simp only [str_app, List.append_assoc]
                    rfl
                  · show Hid (Sr7 _ _ _ (jnm (3 + 1)))
                    rw [jnm_next]
                    exact Lib.hid (HO4.out.setV (by omega) _)
                  · show Hid _
                    intro j t hj hjt
                    by_cases e : j = 3
                    · subst e
                      rw [HKT.out] at hjt
                      obtain rfl := Option.some.inj hjt
                      exact ⟨hq, by omega, HM0.out⟩
                    · exact AN.out j t (by omega) hjt
                case measure => simp [intOf]; omega
              · have hcv1 := conv_one w3 101 101 rfl
                have HJ : Hid (jpre (jkey (jnm n)) 4 = [44, 34, 101, 34, 58]) := Lib.hid (by unfold jpre; rw [jkey_at (by omega) hn]; rfl)
                have ND : Hid (some w.heap.size ≠ (Value.slice ka 4 kc).ownBlock) := Lib.hid (Sr7.away HO3.out (Or.inl (by omega)))
                have NG : Hid (some g ≠ (Value.slice ka 4 kc).ownBlock) := Lib.hid (Sr7.away HO.out (Or.inr (by omega)))
                obtain ⟨r0, r1, r2, r3, r4, r5, r6, r7, r8, r9⟩ := HR3.out.parts
                have rl := HR3.out.lt
                have rf := HR3.out.free
                go_wp2_with (at_builtin; refine wpList_append_str _ rfl (.tmp 68) (.tmp 70) rfl (w.heap.size + 1) (.slice ka 4 kc) (jnm 4) rfl ((HO3.out.alloc (.cells #[.int .u8 101] 5)).alloc (.cells #[.string ⟨#[101]⟩] 9)) _ 1 ⟨#[101]⟩ rfl (cell_of_row _ _ 0 _ _ _ (hnewV (by simp))) 5 (by rw [jnm_len]) (by omega) (by simp; omega) ?_; intro q capk w4 V4 G4 at4; have HO4 := Lib.hid V4; have HG4 := Lib.hid G4; have HR4 := Lib.hid (Row10.grown ((HR3.out.alloc (.cells #[.int .u8 101] 5)).alloc (.cells #[.string ⟨#[101]⟩] 9)) G4 ND.out); obtain ⟨r0, r1, r2, r3, r4, r5, r6, r7, r8, r9⟩ := HR4.out.parts; have rl4 := HR4.out.lt; have rf4 := HR4.out.free; have hcv5 := conv_bytes (w4.setCell ⟨w.heap.size, 9, none⟩ (.slice (some ⟨q, 0, none⟩) 5 capk)) g 0 cap (jencT T) (HBY.out.block ((Below.heap_setCell w4 ⟨w.heap.size, 9, none⟩ _ g (by show g ≠ w.heap.size; omega)).trans ((G4.block g (by simp; omega) NG.out).trans ((bal (bal (Below.refl _ w3) (.cells #[.int .u8 101] 5)) (.cells #[.string ⟨#[101]⟩] 9)).block g (by omega))))) N HNl.out; rw [HU.out] at hcv5; clear V4 G4 at4)
                have s4 : w3.heap.size + 2 ≤ w4.heap.size := (by have h9 := HG4.out.size; simp at h9; omega)
                have B4 : Below w.heap.size w w4 := ⟨HG4.out.os.trans HW3.out.os, HG4.out.tape.trans HW3.out.tape, HG4.out.output.trans HW3.out.output, by have := HW3.out.size; omega, fun j hj => by
                  have h8 := HW3.out.size
                  have h9 := HG4.out.block j (by simp; omega) (fun e => by
                    have := (World.ownsRow.lt HO3.out j e.symm).1
                    omega)
                  exact h9.trans (((bal (bal (Below.refl _ w3) (.cells #[.int .u8 101] 5)) (.cells #[.string ⟨#[101]⟩] 9)).block j (by omega)).trans (HW3.out.block j hj))⟩
                go_roundw
                case rel =>
                  refine ⟨4 + 1, (((((S ++ ⟨#[44]⟩) ++ ⟨#[34]⟩) ++ ⟨#[101]⟩) ++ ⟨#[34, 58]⟩) ++ U), some ⟨q, 0, none⟩, capk, by omega, by go_num, rfl, ?_, ?_, HR4.out.set9 _, ?_, bsc B4 (Nat.le_refl _) _, ?_⟩
                  · rw [ByteArray.size_append, ByteArray.size_append, ByteArray.size_append, ByteArray.size_append, ByteArray.size_append, show (⟨#[34]⟩ : ByteArray).size = 1 from rfl, show (⟨#[101]⟩ : ByteArray).size = 1 from rfl, show (⟨#[34, 58]⟩ : ByteArray).size = 2 from rfl, show (⟨#[44]⟩ : ByteArray).size = 1 from rfl]
                    omega
                  · show (((((S ++ ⟨#[44]⟩) ++ ⟨#[34]⟩) ++ ⟨#[101]⟩) ++ ⟨#[34, 58]⟩) ++ U) = _
                    rw [flat_next HPk.out, HJ.out, HS.out, ← HU.out]
                    show (((((str ((P.take 4).flatten) ++ str [44]) ++ str [34]) ++ str [101]) ++ str [34, 58]) ++ str (jencT T)) = str ((P.take 4).flatten ++ ([44, 34, 101, 34, 58] ++ jencT T))
                    simp only [str_app, List.append_assoc]
                    rfl
                  · show Hid (Sr7 _ _ _ (jnm (4 + 1)))
                    rw [jnm_next]
                    exact Lib.hid (HO4.out.setV (by omega) _)
                  · show Hid _
                    intro j t hj hjt
                    by_cases e : j = 4
                    · subst e
                      rw [HKT.out] at hjt
                      obtain rfl := Option.some.inj hjt
                      exact ⟨hq, by omega, HM0.out⟩
                    · exact AN.out j t (by omega) hjt
                case measure => simp [intOf]; omega
    · have hge : ¬ (k : Int) < (n : Int) := by omega
      obtain rfl : k = n := by omega
      have hall : ∀ t ∈ kids, fewOk t = true ∧ t.depth ≤ 15 ∧ mayN t = 0 ∧ hasT notJsonT t = false := fun t ht => by
        obtain ⟨j, hj⟩ := List.getElem?_of_mem ht
        have hl := (List.getElem?_eq_some_iff.1 hj).1
        exact AN.out j t (by have := HNN.out; omega) hj
      have hwr : w.heap.size < wr.heap.size := HR.out.lt
      obtain ⟨W5, hW5⟩ : ∃ W5, wr.setCell ⟨w.heap.size, 0, none⟩ (.int .i64 8) = W5 := ⟨_, rfl⟩
      have BW5 : Hid (Below w.heap.size w W5) := Lib.hid (by rw [← hW5]; exact bsc BW.out (Nat.le_refl _) _)
      have HR5 : Hid (Row10 W5 w.heap.size (.int .i64 8) (.bool false) (.int .u64 0) (.int .u64 0) (.int .u64 0) (.int .u64 0) (.int .u64 0) (.string ⟨#[]⟩) (.slice la k lc) (.slice ka k kc)) := Lib.hid (by
        rw [← hW5]
        have := heap_setCell_same wr w.heap.size 0 _ _ (.int .i64 8) HR.out
        simpa [Row10] using this)
      have HO5 : Hid (Sr7 W5 (w.heap.size + 1) (.slice ka k kc) (jnm k)) := Lib.hid (by rw [← hW5]; exact HO.out.setV (by omega) _)
      have HW5 := Lib.hid hW5
      have hKw := HK.out.keep BW5.out
      have hTw := tabs_on HT.out BW5.out
      obtain ⟨hky, hk3, hk4⟩ := HO5.out.keys
      have hks : ∀ s ∈ jnm k, s.size ≤ 100000 := fun s hs => by have := jnm_small k s hs; omega
      have hQ := mapP_q hTw.2 hKw (by rw [HNN.out]; exact HLC.out.1) HLC.out.2 hky hk3 hk4 hks (fun t ht => (hall t ht).1)
      have hmay := mapP_may (la := la) (lc := lc) (ka := ka) (kc := kc) (kids := kids) HNN.out hn (fun t ht => ⟨(hall t ht).2.2.1, (hall t ht).2.1⟩)
      have hjs := mapP_json (la := la) (lc := lc) (ka := ka) (kc := kc) (keys := jnm k) (kids := kids) (fun t ht => (hall t ht).2.2.2)
      have hnod := mapP_nodes (la := la) (lc := lc) (ka := ka) (kc := kc) (keys := jnm k) (kids := kids) (by rw [HNN.out]; omega) (fun t ht => by
        obtain ⟨j, hj⟩ := List.getElem?_of_mem ht
        exact (few_q (hall t ht).1 (hKw.ins j t hj) hTw.2).2.1)
      have hLe := mapP_enc la lc ka kc (jnm k) kids
      obtain ⟨L, hL⟩ : ∃ L, jencT (mapP la lc ka kc (jnm k) kids) = L := ⟨_, rfl⟩
      have hSL : (⟨#[123]⟩ : ByteArray) ++ S ++ ⟨#[125]⟩ = str L := by
        rw [HS.out, ← hL, hLe, List.take_of_length_le (by rw [HPL.out]; exact Nat.le_refl _), ← HPP.out, show (⟨#[123]⟩ : ByteArray) = str [123] from rfl, show (⟨#[125]⟩ : ByteArray) = str [125] from rfl, str_app, str_app]
      obtain ⟨N, hN⟩ : ∃ N, L.length = N := ⟨_, rfl⟩
      have hNs : (N : Int) ≤ 20 + 5010 * k := by
        rw [← hN, ← str_size, ← hSL, ByteArray.size_append, ByteArray.size_append, show (⟨#[123]⟩ : ByteArray).size = 1 from rfl, show (⟨#[125]⟩ : ByteArray).size = 1 from rfl]
        omega
      have KE : Hid (∀ W, Below W5.heap.size W5 W → Calls Tryz.prog 9 #[V10 8 false 0 0 0 0 0 ⟨#[]⟩ la k lc ka k kc] W fun e w' => ∃ g cap, e = .returned (.tuple #[.slice (some ⟨g, 0, none⟩) N cap, .int .i64 0]) ∧ Hid (BytesAt w' g 0 L) ∧ Below W.heap.size W w') := Lib.hid (fun W hW => by
        have KE1 := jenc_any _ hnod W (hQ.keep hW) (tabs_on hTw hW)
        rw [mapP_val, HNN.out, jnm_len] at KE1
        refine KE1.mono ?_
        rintro e w' ⟨hE, hb⟩
        unfold JEncIs at hE
        rw [hL, hN] at hE
        rcases hE with ⟨m0, _⟩ | ⟨_, hnj, _⟩ | ⟨_, _, ml, _⟩ | ⟨_, _, _, g, cap, rfl, _, hB⟩
        · exact absurd hmay m0
        · rw [hjs] at hnj; cases hnj
        · omega
        · exact ⟨g, cap, rfl, Lib.hid hB, hb⟩)
      have HSL := Lib.hid hSL
      have hLN := Lib.hid hN
      have HTw := Lib.hid hTw
      have hseq : (((⟨#[123]⟩ : ByteArray) ++ S ++ ⟨#[125]⟩).toList == ((⟨#[123]⟩ : ByteArray) ++ S ++ ⟨#[125]⟩).toList) = true := by simp
      obtain ⟨r0, r1, r2, r3, r4, r5, r6, r7, r8, r9⟩ := HR.out.parts
      have rf := HR.out.free
      obtain ⟨t0, t1, t2, t3, t4, t5, t6, t7, t8, t9⟩ := HR5.out.parts
      rw [← hW5] at t0 t1 t2 t3 t4 t5 t6 t7 t8 t9
      clear hall hKw hQ hmay hnod hLe hL hSL hN HS AN hjs hky hk3 hk4 hks hW5 hTw
      go_wp2_with (first
        | (go_at_call 9; rw [HW5.out]; ((with_reducible refine (KE.out _ (Below.refl _ _)).mono ?_); rintro e w1 ⟨g, cap, rfl, HB, hb1⟩; have HB1 := Lib.hid hb1; clear hb1))
        | (go_at_call 8; ((with_reducible refine (told7_true _ (tabs_on HTw.out HB1.out)).mono ?_); rintro e w2 ⟨rfl, hb2⟩; have hcv5 := conv_bytes w2 g 0 cap L (HB.out.keep hb2) N hLN.out; rw [← HSL.out] at hcv5; have HB2 := Lib.hid (btr HB1.out hb2); clear hb2)))
      go_ret
      exact ⟨by simp, btr BW5.out HB2.out⟩
/-- The law, for any list of values. -/
theorem jparts_any (la : Option Addr) (lc : Nat) (kids : List VT) (ob : Bool) (w : World) (hT : Tabs w) (hK : KidsAt w la kids) (h1 : kids.length ≤ lc) (h2 : lc ≤ maxLen) (hi : ∀ (i : Nat) (t : VT), kids[i]? = some t → t.In w) :
    Calls Tryz.prog 5 #[.slice la kids.length lc, .bool ob] w fun e w' => e = .returned (.bool true) ∧ Below w.heap.size w w' := by
  have hl : kids.length ≤ 9223372036854775807 := by have := h2; unfold maxLen at this; omega
  by_cases h : 5 < kids.length
  · exact jparts_long la kids.length lc ob w hT hl h
  · obtain ⟨bb, off, a, b⟩ := hK
    cases ob
    · exact jparts_arr la lc kids bb off w hT ⟨a, b, hi, hl⟩ (by omega) h1 h2
    · exact jparts_map la lc kids bb off w hT ⟨a, b, hi, hl⟩ (by omega) h1 h2
end Go.Proofs.YtbfgkogccfioiaaGreatDoor
