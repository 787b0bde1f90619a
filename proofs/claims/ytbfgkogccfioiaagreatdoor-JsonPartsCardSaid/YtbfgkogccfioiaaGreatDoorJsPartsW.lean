/-
  entrepotlaw7.JsonParts answers true for any list of values.
-/
import Derived.Test.YtbfgkogccfioiaaGreatDoorJsListT
import Derived.Test.YtbfgkogccfioiaaGreatDoorGJ5
import Derived.Test.YtbfgkogccfioiaaGreatDoorOwnRow
import Derived.Deep.AppendLies
namespace Go.Proofs.YtbfgkogccfioiaaGreatDoor
open Go.RowKit Go.Shelf
set_option linter.unusedVariables false

theorem jparts_long (la : Option Addr) (n lc : Nat) (ob : Bool) (w : World) (hT : Tabs w) (hn : n ≤ 9223372036854775807) (h : 5 < n) :
    Calls Tryz.prog 5 #[.slice la n lc, .bool ob] w fun e w' => e = .returned (.bool true) ∧ Below w.heap.size w w' := by
  have h1 : (5 : Int) < (n : Int) := by omega
  have HT := Lib.hid hT
  clear hT
  go_enter Tryz.func5, Tryz.ntmps5
  go_wp2_with (go_at_call 8; ((with_reducible refine (told7_true _ HT.out).mono ?_); rintro e w1 ⟨rfl, hb1⟩))
  go_ret
  exact ⟨rfl, hb1⟩
theorem cell_block {W W' : World} {a : Addr} (h : W'.heap[a.block]? = W.heap[a.block]?) : W'.cell? a = W.cell? a := by
  unfold World.cell?
  rw [h]
theorem bytes_lt {W : World} {g off : Nat} {l : List UInt8} (h : BytesAt W g off l) (hl : 0 < l.length) : g < W.heap.size := by
  have h1 := h 0 l[0] (List.getElem?_eq_getElem hl)
  rcases Nat.lt_or_ge g W.heap.size with h2 | h2
  · exact h2
  · have h3 : W.heap[g]? = none := Array.getElem?_eq_none h2
    unfold World.cell? at h1
    rw [h3] at h1
    simp at h1
theorem BytesAt.block {W W' : World} {g off : Nat} {l : List UInt8} (h : BytesAt W g off l) (hb : W'.heap[g]? = W.heap[g]?) : BytesAt W' g off l := fun i b hi => (cell_block hb).trans (h i b hi)
/-- A row of texts that the call owns. -/
def Sr7 (W : World) (base : Nat) (v : Value) (l : List ByteArray) : Prop := W.ownsRow base 9 1 v l.length (l.map Value.string)
theorem Sr7.nil (W : World) (base : Nat) : Sr7 W base (.slice none 0 0) [] := World.ownsRow_nil _ _ _ _
theorem Sr7.block {W W' : World} {base : Nat} {v : Value} {l : List ByteArray} (h : Sr7 W base v l) (hb : ∀ g, base ≤ g → g < W.heap.size → W'.heap[g]? = W.heap[g]?) : Sr7 W' base v l := by
  refine ⟨h.1, ?_⟩
  rcases h.2 with h2 | ⟨g, cap, cur, h3, h4, h5, h6⟩
  · exact Or.inl h2
  · exact Or.inr ⟨g, cap, cur, h3, h4, by rw [hb g h4 (Array.getElem?_eq_some_iff.1 h5).1]; exact h5, h6⟩
theorem Sr7.keep {W W' : World} {base : Nat} {v : Value} {l : List ByteArray} (h : Sr7 W base v l) (hb : Below W.heap.size W W') : Sr7 W' base v l := h.block (fun g _ hg => hb.block g hg)
theorem Sr7.alloc {W : World} {base : Nat} {v : Value} {l : List ByteArray} (h : Sr7 W base v l) (o : Obj) : Sr7 (W.alloc o) base v l := h.keep (bal (Below.refl _ _) o)
theorem Sr7.setV {W : World} {base b i : Nat} {v : Value} {l : List ByteArray} (h : Sr7 W base v l) (hb : b < base) (u : Value) : Sr7 (W.setCell ⟨b, i, none⟩ u) base v l :=
  h.block (fun g hg _ => Below.heap_setCell W ⟨b, i, none⟩ u g (by show g ≠ b; omega))
theorem Sr7.keys {W : World} {base n kc : Nat} {ka : Option Addr} {l : List ByteArray} (h : Sr7 W base (.slice ka n kc) l) : KeysAt W ka l ∧ l.length ≤ kc ∧ kc ≤ maxLen := by
  have h' := h
  rcases h.2 with ⟨h2, h3⟩ | ⟨g, cap, cur, h3, h4, h5, h6, h7, _⟩
  · obtain rfl := List.eq_nil_of_length_eq_zero h3
    simp only [Value.slice.injEq] at h2
    obtain ⟨_, _, rfl⟩ := h2
    exact ⟨⟨0, 0, fun h => absurd h (by simp), fun i s hi => by simp at hi⟩, Nat.zero_le _, Nat.zero_le _⟩
  · simp only [Value.slice.injEq] at h3
    obtain ⟨rfl, rfl, rfl⟩ := h3
    refine ⟨⟨g, 0, fun _ => rfl, fun i s hi => ?_⟩, h6, h7⟩
    have := World.ownsRow.cells h' (g := g) rfl i (.string s) (by rw [List.getElem?_map, hi]; rfl)
    rwa [addr_add] at this
theorem Sr7.away {W : World} {base : Nat} {v : Value} {l : List ByteArray} (h : Sr7 W base v l) {c : Nat} (hc : c < base ∨ W.heap.size ≤ c) : some c ≠ v.ownBlock := by
  intro e
  have := World.ownsRow.lt h c e.symm
  omega
theorem wpList_append_str {ops : Array Oper} {rest : List Oper} {o : Oper} {a : Act} {Q : Exit → Act → World → Prop} (w : World) (hgd : o.guard = none) (sl x : Operand)
    (ho : o.op = .call { callee := .builtin .append, args := #[sl, x], argTypes := #[28, 28] }) (base : Nat) (v : Value) (l : List ByteArray) (hs : a.eval sl = v) (hb : Sr7 w base v l) (g c : Nat) (s : ByteArray) (hx : a.eval x = .slice (some ⟨g, 0, none⟩) 1 c)
    (hc : w.cell? ⟨g, 0, none⟩ = some (.string s)) (N : Nat) (hN : l.length + 1 = N) (hsz : N ≤ 1000000000000) (hbase : base ≤ w.heap.size)
    (h : ∀ q cap w', Sr7 w' base (.slice (some ⟨q, 0, none⟩) N cap) (l ++ [s]) → w.grownBy w' v.ownBlock → (v.ownBlock = some q ∨ q = w.heap.size) → wpList Tryz.prog ops Q rest (a.put o.dst (.slice (some ⟨q, 0, none⟩) N cap)) w') : wpList Tryz.prog ops Q (o :: rest) a w := by
  subst hN
  obtain ⟨i0, hi, hz0, hz1, hz2⟩ := info_at info_str
  refine wpList_append_lies w hgd sl x 28 ho base 9 i0 (.string ⟨#[]⟩) 1 16 und_strs hi hz0 hz1 hz2 rfl (by decide) v l.length (l.map Value.string) hs hb ⟨g, 0, none⟩ 1 c [.string s] hx rfl (fun j u hj => ?_) (one_strs [s]) (by decide) (by unfold maxLen; omega) (by omega) hbase w.heap.size rfl ?_
  · match j, hj with
    | 0, hj =>
      simp at hj
      subst hj
      rw [addr_add]
      exact hc
  intro q cap w' hown hg hat _
  refine h q cap w' ?_ hg hat
  unfold Sr7
  rw [List.length_append, List.map_append]
  exact hown
theorem conv_one (W : World) (c : UInt8) (z : Int) (hz : (c.toNat : Int) = z) : (convert 33 9 (.slice (some ⟨W.heap.size, 0, none⟩) 1 1)).run Tryz.prog (W.alloc (.cells #[.int .u8 z] 5)) = .ok (.string ⟨#[c]⟩) (W.alloc (.cells #[.int .u8 z] 5)) :=
  conv_bytes (W.alloc (.cells #[.int .u8 z] 5)) W.heap.size 0 1 [c] (fun i b hi => by
    cases i with
    | zero =>
      simp at hi
      subst hi
      rw [Nat.add_zero, hz]
      exact cell_of_row _ _ 0 _ _ _ (heap_alloc_new _ _)
    | succ i => simp at hi) 1 rfl
theorem pcs_at {f : Nat → List UInt8} {kids : List VT} {k : Nat} {t : VT} (h : kids[k]? = some t) : (jpcs f (kids.map jencT))[k]? = some (jpre f k ++ jencT t) := jpcs_at (by rw [List.getElem?_map, h]; rfl)
set_option maxRecDepth 100000 in
set_option maxHeartbeats 4000000 in
theorem jparts_arr (la : Option Addr) (lc : Nat) (kids : List VT) (bb off : Nat) (w : World) (hT : Tabs w) (hK : Kids w la kids bb off) (hn : kids.length ≤ 5) (h1 : kids.length ≤ lc) (h2 : lc ≤ maxLen) :
    Calls Tryz.prog 5 #[.slice la kids.length lc, .bool false] w fun e w' => e = .returned (.bool true) ∧ Below w.heap.size w w' := by
  have e0 : ¬ (5 : Int) < (kids.length : Int) := by omega
  have HT := Lib.hid hT; have HK := Lib.hid hK; have HLC := Lib.hid (And.intro h1 h2)
  clear hT hK h1 h2
  obtain ⟨n, hnn⟩ : ∃ n, kids.length = n := ⟨_, rfl⟩
  have HNN := Lib.hid hnn
  rw [hnn] at hn e0 HLC ⊢
  clear hnn
  obtain ⟨P, hP⟩ : ∃ P, jpcs (fun _ => []) (kids.map jencT) = P := ⟨_, rfl⟩
  have HP : Hid (∀ (k : Nat) (t : VT), kids[k]? = some t → P[k]? = some (jpre (fun _ => []) k ++ jencT t)) := Lib.hid (fun k t ht => by rw [← hP]; exact pcs_at ht)
  have HPP := Lib.hid hP
  have HPL : Hid (P.length = n) := by show _ = _; rw [← hP, jpcs_len, List.length_map]; exact HNN.out
  clear hP
  have B0 : Hid (Below w.heap.size w (w.alloc (.cells #[.int .i64 7, .bool false, .int .u64 0, .int .u64 0, .int .u64 0, .int .u64 0, .int .u64 0, .string ⟨#[]⟩, .slice la n lc, .slice none 0 0] 30))) := Lib.hid (bal (Below.refl _ _) _)
  have R0 : Hid (Row10 (w.alloc (.cells #[.int .i64 7, .bool false, .int .u64 0, .int .u64 0, .int .u64 0, .int .u64 0, .int .u64 0, .string ⟨#[]⟩, .slice la n lc, .slice none 0 0] 30)) w.heap.size (.int .i64 7) (.bool false) (.int .u64 0) (.int .u64 0) (.int .u64 0) (.int .u64 0) (.int .u64 0) (.string ⟨#[]⟩) (.slice la n lc) (.slice none 0 0)) := Lib.hid (Row10.new w (.int .i64 7) (.bool false) (.int .u64 0) (.int .u64 0) (.int .u64 0) (.int .u64 0) (.int .u64 0) (.string ⟨#[]⟩) (.slice la n lc) (.slice none 0 0))
  skip
  go_enter Tryz.func5, Tryz.ntmps5
  go_wp2
  go_loopw [6, 7, 8, 9, 10] (fun sv iv _ _ _ wr => ∃ (k : Nat) (S : ByteArray), k ≤ n ∧ iv = .int .i64 k ∧ sv = .string S ∧ (S.size : Int) ≤ 9 + 5010 * k ∧ Hid (S = str ((P.take k).flatten)) ∧ Hid (Row10 wr w.heap.size (.int .i64 7) (.bool false) (.int .u64 0) (.int .u64 0) (.int .u64 0) (.int .u64 0) (.int .u64 0) (.string ⟨#[]⟩) (.slice la n lc) (.slice none 0 0)) ∧ Hid (Below w.heap.size w wr) ∧ Hid (∀ (j : Nat) (t : VT), j < k → kids[j]? = some t → fewOk t = true ∧ t.depth ≤ 15 ∧ mayN t = 0 ∧ hasT notJsonT t = false)) (fun _ i _ _ _ _ => n - (intOf i).toNat)
  case atStart =>
    exact ⟨0, ⟨#[]⟩, Nat.zero_le _, rfl, rfl, by decide, (show Hid _ from rfl), R0, B0, (show Hid _ from fun j t hj => absurd hj (Nat.not_lt_zero _))⟩
  case round =>
    obtain ⟨k, S, hk, rfl, rfl, hS9, HS, HR, BW, AN⟩ := hrel
    clear B0 R0
    rename World => wr
    have hS8 : (S.size : Int) ≤ 8388608 := by omega
    by_cases hlt : k < n
    · obtain ⟨t, ht, hm⟩ := kid_at (kids := kids) (k := k) (by rw [HNN.out]; exact hlt)
      have hr := (HK.out.cells k t ht).keep BW.out
      obtain rfl : la = some ⟨bb, off, none⟩ := HK.out.la (by rw [HNN.out]; omega)
      have hti := (HK.out.ins k t ht).keep BW.out
      have hfew := vfew t wr hti
      have hfq := fun h => few_q (T := t) h hti (tb_on HT.out.2 BW.out)
      have HDP := Lib.hid (fun (hd : t.depth ≤ 40) W (hW : Below wr.heap.size wr W) => rdepth t (by omega) W (hti.keep hW))
      have HEN := Lib.hid (fun (hn : t.nodes ≤ 10000) (hQ : Qv t wr) W (hW : Below wr.heap.size wr W) => jenc_any t hn W (hQ.keep hW) (tabs_on (tabs_on HT.out BW.out) hW))
      have HKT := Lib.hid ht
      have HPk := Lib.hid (HP.out k t ht)
      obtain ⟨T, hTT⟩ : ∃ T, t = T := ⟨_, rfl⟩
      rw [hTT] at hfq HKT
      obtain ⟨o2, l2⟩ := t
      obtain ⟨kd2, g2, x2', b2, s2, la2, lc2, ka2, kc2, ks2⟩ := o2
      obtain ⟨c0, c1, c2, c3, c4, c5, c6, c7, c8, c9⟩ := hr.ten
      simp only [VT.val, VT.cells, VT.o_mk, VT.kids_mk] at hfew HDP HEN
      rw [hTT] at hfew HDP HEN HPk
      have HF := Lib.hid hfew
      clear hr hti hfew ht hm hTT
      have hlt2 : (k : Int) < (n : Int) := by omega
      cases hq : fewOk T with
      | false =>
        rw [hq] at HF
        go_wp2_with (first | (go_at_call 7; ((with_reducible refine HF.out.mono ?_); rintro e w1 ⟨rfl, hb1⟩)) | (go_at_call 8; ((with_reducible refine (told7_true _ (tabs_on (tabs_on HT.out BW.out) hb1)).mono ?_); rintro e w2 ⟨rfl, hb2⟩)))
        go_ret
        exact ⟨rfl, btr (btr BW.out hb1) hb2⟩
      | true =>
        rw [hq] at HF
        obtain ⟨q1, q2, q3⟩ := hfq hq
        have HQ := Lib.hid q1
        have KD := Lib.hid (HDP.out q3)
        have KE := Lib.hid (HEN.out (by omega) q1)
        clear hfq q1 HDP HEN
        obtain ⟨D, hD⟩ : ∃ D, T.depth = D := ⟨_, rfl⟩
        rw [hD] at KD q3
        go_wp2_with fail
        ((with_reducible refine HF.out.mono ?_); rintro e w1 ⟨rfl, hb1⟩)
        have HB1 := Lib.hid hb1
        replace c0 := cell_keep hb1 c0; replace c1 := cell_keep hb1 c1; replace c2 := cell_keep hb1 c2; replace c3 := cell_keep hb1 c3; replace c4 := cell_keep hb1 c4
        replace c5 := cell_keep hb1 c5; replace c6 := cell_keep hb1 c6; replace c7 := cell_keep hb1 c7; replace c8 := cell_keep hb1 c8; replace c9 := cell_keep hb1 c9
        clear hb1
        go_wp2_with fail
        ((with_reducible refine (KD.out _ HB1.out).mono ?_); rintro e w2 ⟨rfl, hb2⟩)
        have HB2 := Lib.hid (btr HB1.out hb2)
        replace c0 := cell_keep hb2 c0; replace c1 := cell_keep hb2 c1; replace c2 := cell_keep hb2 c2; replace c3 := cell_keep hb2 c3; replace c4 := cell_keep hb2 c4
        replace c5 := cell_keep hb2 c5; replace c6 := cell_keep hb2 c6; replace c7 := cell_keep hb2 c7; replace c8 := cell_keep hb2 c8; replace c9 := cell_keep hb2 c9
        clear hb2
        by_cases h15 : 15 < D
        · have h15' : (15 : Int) < (D : Int) := by omega
          go_wp2_with (go_at_call 8; ((with_reducible refine (told7_true _ (tabs_on (tabs_on HT.out BW.out) HB2.out)).mono ?_); rintro e w3 ⟨rfl, hb3⟩))
          go_ret
          exact ⟨rfl, btr (btr BW.out HB2.out) hb3⟩
        · have h15' : ¬ (15 : Int) < (D : Int) := by omega
          go_wp2_with fail
          ((with_reducible refine (KE.out _ HB2.out).mono ?_); rintro e w3 ⟨hE3, hb3⟩)
          have HB3 := Lib.hid (btr HB2.out hb3)
          rcases hE3 with ⟨m0, rfl⟩ | ⟨m0, hnj, rfl⟩ | ⟨m0, hnj, ml, rfl⟩ | ⟨m0, hnj, ml, g, cap, rfl, hg, hB⟩
          · have m1 : (mayN T != 0) = true := by simpa using m0
            go_wp2_with (go_at_call 8; ((with_reducible refine (told7_true _ (tabs_on (tabs_on HT.out BW.out) HB3.out)).mono ?_); rintro e w4 ⟨rfl, hb4⟩))
            go_ret
            exact ⟨rfl, btr (btr BW.out HB3.out) hb4⟩
          · go_wp2_with (go_at_call 8; ((with_reducible refine (told7_true _ (tabs_on (tabs_on HT.out BW.out) HB3.out)).mono ?_); rintro e w4 ⟨rfl, hb4⟩))
            go_ret
            exact ⟨rfl, btr (btr BW.out HB3.out) hb4⟩
          · go_wp2_with (go_at_call 8; ((with_reducible refine (told7_true _ (tabs_on (tabs_on HT.out BW.out) HB3.out)).mono ?_); rintro e w4 ⟨rfl, hb4⟩))
            go_ret
            exact ⟨rfl, btr (btr BW.out HB3.out) hb4⟩
          · obtain ⟨N, hN⟩ : ∃ N, (jencT T).length = N := ⟨_, rfl⟩
            have hcv3 := fun o => conv_bytes (w3.alloc o) g 0 cap (jencT T) (hB.keep (bal (Below.refl _ w3) o)) N hN
            have HBY := Lib.hid hB
            have HB3' := Lib.hid hb3
            have HM0 := Lib.hid (And.intro m0 hnj)
            have HNl := Lib.hid hN
            rw [hN] at ml ⊢
            obtain ⟨U, hU⟩ : ∃ U, str (jencT T) = U := ⟨_, rfl⟩
            have HU := Lib.hid hU
            rw [hU] at hcv3
            have hUs : (U.size : Int) = (N : Int) := by rw [← hU, str_size, hN]
            have HW3 := Lib.hid (btr BW.out HB3.out)
            have HR3 := Lib.hid (Row10.keep HB3.out HR.out)
            clear hU hN hB m0 hb3 hnj
            by_cases h5 : 5000 < N
            · have h5' : (5000 : Int) < (N : Int) := by omega
              go_wp2_with (go_at_call 8; ((with_reducible refine (told7_true _ (tabs_on (tabs_on HT.out BW.out) HB3.out)).mono ?_); rintro e w4 ⟨rfl, hb4⟩))
              go_ret
              exact ⟨rfl, btr (btr BW.out HB3.out) hb4⟩
            · have h5' : ¬ (5000 : Int) < (N : Int) := by omega
              have hU8 : (U.size : Int) ≤ 8388608 := by omega
              rcases (show k = 0 ∨ k = 1 ∨ k = 2 ∨ k = 3 ∨ k = 4 by omega) with rfl | rfl | rfl | rfl | rfl
              · have hcv1 := conv_one w3 97 97 rfl
                go_wp2
                go_roundw
                case rel =>
                  refine ⟨0 + 1, S ++ U, by omega, by go_num, rfl, ?_, ?_, HR3.out.alloc _, bal HW3.out _, ?_⟩
                  · rw [ByteArray.size_append]
                    omega
                  · show S ++ U = _
                    rw [flat_next HPk.out, HS.out, ← HU.out, str_app, show jpre (fun _ => []) 0 = [] from rfl, List.nil_append]
                  · show Hid _
                    intro j t hj hjt
                    by_cases e : j = 0
                    · subst e
                      rw [HKT.out] at hjt
                      obtain rfl := Option.some.inj hjt
                      exact ⟨hq, by omega, HM0.out⟩
                    · exact AN.out j t (by omega) hjt
                case measure => simp [intOf]; omega
              · have hcv1 := conv_one w3 98 98 rfl
                go_wp2
                go_roundw
                case rel =>
                  refine ⟨1 + 1, (S ++ ⟨#[44]⟩) ++ U, by omega, by go_num, rfl, ?_, ?_, HR3.out.alloc _, bal HW3.out _, ?_⟩
                  · rw [ByteArray.size_append, ByteArray.size_append, show (⟨#[44]⟩ : ByteArray).size = 1 from rfl]
                    omega
                  · show (S ++ ⟨#[44]⟩) ++ U = _
                    rw [flat_next HPk.out, HS.out, ← HU.out, show (⟨#[44]⟩ : ByteArray) = str [44] from rfl, str_app, str_app, show jpre (fun _ => []) 1 = [44] from rfl, List.append_assoc]
                  · show Hid _
                    intro j t hj hjt
                    by_cases e : j = 1
                    · subst e
                      rw [HKT.out] at hjt
                      obtain rfl := Option.some.inj hjt
                      exact ⟨hq, by omega, HM0.out⟩
                    · exact AN.out j t (by omega) hjt
                case measure => simp [intOf]; omega
              · have hcv1 := conv_one w3 99 99 rfl
                go_wp2
                go_roundw
                case rel =>
                  refine ⟨2 + 1, (S ++ ⟨#[44]⟩) ++ U, by omega, by go_num, rfl, ?_, ?_, HR3.out.alloc _, bal HW3.out _, ?_⟩
                  · rw [ByteArray.size_append, ByteArray.size_append, show (⟨#[44]⟩ : ByteArray).size = 1 from rfl]
                    omega
                  · show (S ++ ⟨#[44]⟩) ++ U = _
                    rw [flat_next HPk.out, HS.out, ← HU.out, show (⟨#[44]⟩ : ByteArray) = str [44] from rfl, str_app, str_app, show jpre (fun _ => []) 2 = [44] from rfl, List.append_assoc]
                  · show Hid _
                    intro j t hj hjt
                    by_cases e : j = 2
                    · subst e
                      rw [HKT.out] at hjt
                      obtain rfl := Option.some.inj hjt
                      exact ⟨hq, by omega, HM0.out⟩
                    · exact AN.out j t (by omega) hjt
                case measure => simp [intOf]; omega
              · have hcv1 := conv_one w3 100 100 rfl
                go_wp2
                go_roundw
                case rel =>
                  refine ⟨3 + 1, (S ++ ⟨#[44]⟩) ++ U, by omega, by go_num, rfl, ?_, ?_, HR3.out.alloc _, bal HW3.out _, ?_⟩
                  · rw [ByteArray.size_append, ByteArray.size_append, show (⟨#[44]⟩ : ByteArray).size = 1 from rfl]
                    omega
                  · show (S ++ ⟨#[44]⟩) ++ U = _
                    rw [flat_next HPk.out, HS.out, ← HU.out, show (⟨#[44]⟩ : ByteArray) = str [44] from rfl, str_app, str_app, show jpre (fun _ => []) 3 = [44] from rfl, List.append_assoc]
                  · show Hid _
                    intro j t hj hjt
                    by_cases e : j = 3
                    · subst e
                      rw [HKT.out] at hjt
                      obtain rfl := Option.some.inj hjt
                      exact ⟨hq, by omega, HM0.out⟩
                    · exact AN.out j t (by omega) hjt
                case measure => simp [intOf]; omega
              · have hcv1 := conv_one w3 101 101 rfl
                go_wp2
                go_roundw
                case rel =>
                  refine ⟨4 + 1, (S ++ ⟨#[44]⟩) ++ U, by omega, by go_num, rfl, ?_, ?_, HR3.out.alloc _, bal HW3.out _, ?_⟩
                  · rw [ByteArray.size_append, ByteArray.size_append, show (⟨#[44]⟩ : ByteArray).size = 1 from rfl]
                    omega
                  · show (S ++ ⟨#[44]⟩) ++ U = _
                    rw [flat_next HPk.out, HS.out, ← HU.out, show (⟨#[44]⟩ : ByteArray) = str [44] from rfl, str_app, str_app, show jpre (fun _ => []) 4 = [44] from rfl, List.append_assoc]
                  · show Hid _
                    intro j t hj hjt
                    by_cases e : j = 4
                    · subst e
                      rw [HKT.out] at hjt
                      obtain rfl := Option.some.inj hjt
                      exact ⟨hq, by omega, HM0.out⟩
                    · exact AN.out j t (by omega) hjt
                case measure => simp [intOf]; omega
    · have hge : ¬ (k : Int) < (n : Int) := by omega
      obtain rfl : k = n := by omega
      have hall : ∀ t ∈ kids, fewOk t = true ∧ t.depth ≤ 15 ∧ mayN t = 0 ∧ hasT notJsonT t = false := fun t ht => by
        obtain ⟨j, hj⟩ := List.getElem?_of_mem ht
        have hl := (List.getElem?_eq_some_iff.1 hj).1
        exact AN.out j t (by have := HNN.out; omega) hj
      have hKw := HK.out.keep BW.out
      have hTw := tabs_on HT.out BW.out
      have hQ := listP_q hTw.2 hKw (by rw [HNN.out]; exact HLC.out.1) HLC.out.2 (fun t ht => (hall t ht).1)
      have hmay := listP_may (la := la) (lc := lc) (kids := kids) (by rw [HNN.out]; omega) (fun t ht => ⟨(hall t ht).2.2.1, (hall t ht).2.1⟩)
      have hjs := listP_json (la := la) (lc := lc) (kids := kids) (fun t ht => (hall t ht).2.2.2)
      have hnod := listP_nodes (la := la) (lc := lc) (kids := kids) (by rw [HNN.out]; omega) (fun t ht => by
        obtain ⟨j, hj⟩ := List.getElem?_of_mem ht
        exact (few_q (hall t ht).1 (hKw.ins j t hj) hTw.2).2.1)
      have KE0 := jenc_any _ hnod wr hQ hTw
      have hLe := listP_enc la lc kids
      obtain ⟨L, hL⟩ : ∃ L, jencT (listP la lc kids) = L := ⟨_, rfl⟩
      have hSL : (⟨#[91]⟩ : ByteArray) ++ S ++ ⟨#[93]⟩ = str L := by
        rw [HS.out, ← hL, hLe, List.take_of_length_le (by rw [HPL.out]; exact Nat.le_refl _), ← HPP.out, show (⟨#[91]⟩ : ByteArray) = str [91] from rfl, show (⟨#[93]⟩ : ByteArray) = str [93] from rfl, str_app, str_app]
      obtain ⟨N, hN⟩ : ∃ N, L.length = N := ⟨_, rfl⟩
      have hNs : (N : Int) ≤ 20 + 5010 * k := by
        rw [← hN, ← str_size, ← hSL, ByteArray.size_append, ByteArray.size_append, show (⟨#[91]⟩ : ByteArray).size = 1 from rfl, show (⟨#[93]⟩ : ByteArray).size = 1 from rfl]
        omega
      have KE : Hid (∀ W, Below wr.heap.size wr W → Calls Tryz.prog 9 #[V10 7 false 0 0 0 0 0 ⟨#[]⟩ la k lc none 0 0] W fun e w' => ∃ g cap, e = .returned (.tuple #[.slice (some ⟨g, 0, none⟩) N cap, .int .i64 0]) ∧ Hid (BytesAt w' g 0 L) ∧ Below W.heap.size W w') := Lib.hid (fun W hW => by
        have KE1 := jenc_any _ hnod W (hQ.keep hW) (tabs_on hTw hW)
        rw [listP_val, HNN.out] at KE1
        refine KE1.mono ?_
        rintro e w' ⟨hE, hb⟩
        unfold JEncIs at hE
        rw [hL, hN] at hE
        rcases hE with ⟨m0, _⟩ | ⟨_, hnj, _⟩ | ⟨_, _, ml, _⟩ | ⟨_, _, _, g, cap, rfl, _, hB⟩
        · exact absurd hmay m0
        · rw [hjs] at hnj; cases hnj
        · omega
        · exact ⟨g, cap, rfl, Lib.hid hB, hb⟩)
      have HSL := Lib.hid hSL
      have hLN := Lib.hid hN
      have hseq : (((⟨#[91]⟩ : ByteArray) ++ S ++ ⟨#[93]⟩).toList == ((⟨#[91]⟩ : ByteArray) ++ S ++ ⟨#[93]⟩).toList) = true := by simp
      obtain ⟨r0, r1, r2, r3, r4, r5, r6, r7, r8, r9⟩ := HR.out.parts
      clear hall hKw hQ hmay hnod KE0 hLe hL hSL hN HS AN hjs
      go_wp2_with fail
      ((with_reducible refine (KE.out _ (Below.refl _ _)).mono ?_); rintro e w1 ⟨g, cap, rfl, HB, hb1⟩)
      have HB1 := Lib.hid hb1
      go_wp2_with fail
      ((with_reducible refine (told7_true _ (tabs_on hTw HB1.out)).mono ?_); rintro e w2 ⟨rfl, hb2⟩)
      have hcv5 := conv_bytes w2 g 0 cap L (HB.out.keep hb2) N hLN.out
      rw [← HSL.out] at hcv5
      have HB2 := Lib.hid (btr HB1.out hb2)
      clear hb1 hb2
      go_wp2
      go_ret
      exact ⟨by simp, btr BW.out HB2.out⟩
end Go.Proofs.YtbfgkogccfioiaaGreatDoor
