/-
  entrepotlaw6.ValueCounts answers true for any list of values.
-/
import Derived.Test.YtgklokjilfeklaaDoorValFew
import Derived.Lib.QuietBelow
import Derived.BigQuiet
namespace Go.Proofs.YtgklokjilfeklaaDoor
open Go.RowKit Go.Shelf
open Go.Sort (grow)

theorem counts_long (la : Option Addr) (n lc : Nat) (w : World) (hT : Tb w) (hn : n ≤ 9223372036854775807) (h : 6 < n) :
    Calls Tryd.prog 8 #[.slice la n lc] w fun e w' => e = .returned (.bool true) ∧ Below w.heap.size w w' := by
  have h1 : (6 : Int) < (n : Int) := by omega
  have HT := Lib.hid hT
  clear hT
  go_enter Tryd.func8, Tryd.ntmps8
  go_wp2_with (go_at_call 11; ((with_reducible refine (told6_true _ HT.out).mono ?_); rintro e w1 ⟨rfl, hb1⟩))
  go_ret
  exact ⟨rfl, hb1⟩

/-- An array of values. -/
def listT (la : Option Addr) (lc : Nat) (kids : List VT) : VT := .mk ⟨7, false, 0, 0, ⟨#[]⟩, la, lc, none, 0, []⟩ kids
theorem listT_in {la : Option Addr} {lc : Nat} {kids : List VT} {w : World} {bb off : Nat} (hK : Kids w la kids bb off) (h1 : kids.length ≤ lc) (h2 : lc ≤ maxLen) : (listT la lc kids).In w :=
  .mk _ _ ⟨⟨by show _ ≤ (7 : Int); omega, by show (7 : Int) ≤ _; omega⟩, by show 0 < _; omega, ⟨Int.le_refl _, by show (0 : Int) ≤ _; omega⟩, Nat.zero_le _, ⟨h1, h2⟩, ⟨Nat.le_refl _, Nat.zero_le _⟩, fun s h => by cases h⟩
    ⟨0, 0, fun h => absurd h (by simp), fun i s h => by simp at h⟩ ⟨bb, off, hK.la, hK.cells⟩ hK.ins
theorem listT_val (la : Option Addr) (lc : Nat) (kids : List VT) : (listT la lc kids).val = V10 7 false 0 0 0 0 0 ⟨#[]⟩ la kids.length lc none 0 0 := by
  show V10 7 false (lb 0 0) (lb 1 0) (lb 2 0) (lb 3 0) 0 ⟨#[]⟩ la kids.length lc none 0 0 = _
  simp only [lb_zero]
theorem nTo_few {kids : List VT} {k : Nat} (hf : ∀ (j : Nat) (t : VT), j < k → kids[j]? = some t → t.nodes ≤ 400 ∧ t.depth ≤ 40) : nTo kids k ≤ 400 * k ∧ dTo kids k ≤ 40 := by
  induction k with
  | zero => rw [nTo_zero, dTo_zero]; omega
  | succ k ih =>
    have ih' := ih (fun j t hj ht => hf j t (by omega) ht)
    by_cases hk : k < kids.length
    · obtain ⟨t, ht, _⟩ := kid_at hk
      rw [nTo_next ht, dTo_next ht]
      have := hf k t (by omega) ht
      omega
    · have e : kids.take (k + 1) = kids.take k := by rw [List.take_of_length_le (by omega), List.take_of_length_le (by omega)]
      unfold nTo dTo at *
      rw [e]
      omega

set_option maxRecDepth 100000 in
set_option maxHeartbeats 4000000 in
theorem counts_core (la : Option Addr) (lc : Nat) (kids : List VT) (bb off : Nat) (w : World) (hT : Tb w) (hK : Kids w la kids bb off) (hn : kids.length ≤ 6) (h1 : kids.length ≤ lc) (h2 : lc ≤ maxLen) :
    Calls Tryd.prog 8 #[.slice la kids.length lc] w fun e w' => e = .returned (.bool true) ∧ Below w.heap.size w w' := by
  have e0 : ¬ (6 : Int) < (kids.length : Int) := by omega
  have HT := Lib.hid hT; have HK := Lib.hid hK; have HLC := Lib.hid (And.intro h1 h2)
  clear hT hK h1 h2
  go_enter Tryd.func8, Tryd.ntmps8
  go_wp2
  go_loopw [3, 4, 5] (fun d n i wr => ∃ k : Nat, k ≤ kids.length ∧ i = .int .i64 k ∧ d = .int .i64 (dTo kids k : Nat) ∧ n = .int .i64 ((1 : Int) + (nTo kids k : Nat)) ∧ Hid (Below w.heap.size w wr) ∧ Hid (∀ (j : Nat) (t : VT), j < k → kids[j]? = some t → t.nodes ≤ 400 ∧ t.depth ≤ 40)) (fun _ _ i _ => kids.length - (intOf i).toNat)
  case atStart => exact ⟨0, Nat.zero_le _, rfl, by rw [dTo_zero]; rfl, by rw [nTo_zero]; rfl, Below.refl _ _, (show Hid _ from fun j t hj => absurd hj (Nat.not_lt_zero _))⟩
  case round =>
    obtain ⟨k, hk, rfl, rfl, rfl, BW, AN⟩ := hrel
    by_cases hlt : k < kids.length
    · obtain ⟨t, ht, hm⟩ := kid_at hlt
      have hr := (HK.out.cells k t ht).keep BW.out
      obtain rfl : la = some ⟨bb, off, none⟩ := HK.out.la (by omega)
      have hti := (HK.out.ins k t ht).keep BW.out
      have hfew := vfew t wr hti
      have hfq := fun h => few_q (T := t) h hti (tb_on HT.out BW.out)
      have hdep := vdepth t
      have hnod := vnodes t
      have hdx := dTo_next ht
      have hnx := nTo_next ht
      have hto := nTo_few AN.out
      have HKT := Lib.hid ht
      obtain ⟨o2, l2⟩ := t
      obtain ⟨kd2, g2, x2', b2, s2, la2, lc2, ka2, kc2, ks2⟩ := o2
      simp only [VT.val, VT.cells, VT.o_mk, VT.kids_mk] at hfew hdep hnod
      obtain ⟨c0, c1, c2, c3, c4, c5, c6, c7, c8, c9⟩ := hr.ten
      generalize hTT : VT.mk ⟨kd2, g2, x2', b2, s2, la2, lc2, ka2, kc2, ks2⟩ l2 = T at *
      have HTI := Lib.hid hti; have HF := Lib.hid hfew; have HD := Lib.hid hdep; have HN := Lib.hid hnod; have HDX := Lib.hid hdx; have HNX := Lib.hid hnx
      clear hr hti hfew hdep hnod hdx hnx ht hTT
      cases hq : fewOk T with
      | false =>
        rw [hq] at HF
        go_wp2_with (first | (go_at_call 9; ((with_reducible refine HF.out.mono ?_); rintro e w1 ⟨rfl, hb1⟩)) | (go_at_call 11; ((with_reducible refine (told6_true _ (tb_on (tb_on HT.out BW.out) hb1)).mono ?_); rintro e w2 ⟨rfl, hb2⟩)))
        go_ret
        exact ⟨rfl, btr (btr BW.out hb1) hb2⟩
      | true =>
        rw [hq] at HF
        obtain ⟨_, q2, q3⟩ := hfq hq
        clear hfq
        go_wp2_with fail
        ((with_reducible refine HF.out.mono ?_); rintro e w1 ⟨rfl, hb1⟩)
        have HB1 := Lib.hid hb1
        have r0 := cell_regrown (cell_keep hb1 c0); have r1 := cell_regrown (cell_keep hb1 c1); have r2 := cell_regrown (cell_keep hb1 c2); have r3 := cell_regrown (cell_keep hb1 c3); have r4 := cell_regrown (cell_keep hb1 c4)
        have r5 := cell_regrown (cell_keep hb1 c5); have r6 := cell_regrown (cell_keep hb1 c6); have r7 := cell_regrown (cell_keep hb1 c7); have r8 := cell_regrown (cell_keep hb1 c8); have r9 := cell_regrown (cell_keep hb1 c9)
        clear c0 c1 c2 c3 c4 c5 c6 c7 c8 c9 hb1
        have cq0 := fun (d : Nat) (os : Array Obj) => Calls.regrown_of (w := w1) (d := d) (os := os) (HD.out (by omega) _ ((HTI.out.keep HB1.out).keep (below_regrown w1 d os)))
        have cq1 := fun (d : Nat) (os : Array Obj) => Calls.regrown_of (w := w1) (d := d) (os := os) (HN.out (by omega) _ ((HTI.out.keep HB1.out).keep (below_regrown w1 d os)))
        have hs1 : IntKind.i64.wrap ((1 : Int) + (nTo kids k : Nat) + (T.nodes : Nat)) = (1 : Int) + (nTo kids k : Nat) + (T.nodes : Nat) := IntWalk.i64_in _ (by omega)
        go_upto_region 9 with (fail)
        have hlt2 : (k : Int) < (kids.length : Int) := by omega
        refine wp_region_quiet_below (by kernel_rfl) (by kernel_rfl) ?_
        repeat (first | go_big_quiet_step ((first | with_reducible exact cq0 _ _ | with_reducible exact cq1 _ _)) | quiet_step (first | with_reducible exact cq0 _ _ | with_reducible exact cq1 _ _))
        refine wpQuiet_nil ?_
        intro _ hw'
        obtain ⟨⟨dq, osq⟩, hw''⟩ := hw'
        subst hw''
        clear r0 r1 r2 r3 r4 r5 r6 r7 r8 r9 cq0 cq1
        have hb := below_regrown w1 dq osq
        generalize grow (redrawn w1 dq) osq = w2 at *
        have BW2 := Lib.hid (btr (btr BW.out HB1.out) hb)
        clear hb
        go_wp2
        go_roundw
        case rel => exact ⟨k + 1, by omega, by go_num, by rw [HDX.out]; exact congrArg (Value.int .i64) (by omega), by rw [HNX.out]; first | exact congrArg (Value.int .i64) (by omega) | (rw [hs1]; exact congrArg (Value.int .i64) (by omega)), BW2.out, (show Hid _ from fun j t hj hjt => by
          by_cases e : j = k
          · subst e
            rw [HKT.out] at hjt
            obtain rfl := Option.some.inj hjt
            exact ⟨q2, q3⟩
          · exact AN.out j t (by omega) hjt)⟩
        case measure => simp [intOf]; omega
    · have hge : ¬ (k : Int) < (kids.length : Int) := by omega
      have hto := nTo_few AN.out
      have hkk : k = kids.length := by omega
      subst hkk
      have hTin := listT_in (HK.out.keep BW.out) HLC.out.1 HLC.out.2
      have hdl : (listT la lc kids).depth = 1 + dTo kids kids.length := dTo_all _ kids
      have hnl : (listT la lc kids).nodes = 1 + nTo kids kids.length := nTo_all _ kids
      have kd := fun W (hb : Below wr.heap.size wr W) => vdepth (listT la lc kids) (by omega) W (hTin.keep hb)
      have kn := fun W (hb : Below wr.heap.size wr W) => vnodes (listT la lc kids) (by omega) W (hTin.keep hb)
      rw [listT_val, hdl] at kd
      rw [listT_val, hnl] at kn
      have e1 : (((1 + dTo kids kids.length : Nat) : Int)) = (dTo kids kids.length : Nat) + 1 := by omega
      have e2 : (((1 + nTo kids kids.length : Nat) : Int)) = 1 + (nTo kids kids.length : Nat) := by omega
      rw [e1] at kd
      rw [e2] at kn
      have hd0 : ((dTo kids kids.length : Nat) : Int) ≤ 1000 := by omega
      have KD := Lib.hid kd; have KN := Lib.hid kn
      clear kd kn hTin hdl hnl e1 e2
      generalize dTo kids kids.length = D at *
      generalize nTo kids kids.length = N at *
      go_wp2_with fail
      ((with_reducible refine (told6_true _ (tb_on (tb_on HT.out BW.out) (bal (Below.refl _ _) _))).mono ?_); rintro e w1 ⟨rfl, hb1⟩)
      have R1 := Row10.keep hb1 (Row10.new wr (.int .i64 7) (.bool false) (.int .u64 0) (.int .u64 0) (.int .u64 0) (.int .u64 0) (.int .u64 0) (.string ⟨#[]⟩) (.slice la kids.length lc) (.slice none 0 0))
      have B1 := Lib.hid (btr (bal (Below.refl wr.heap.size wr) _) hb1)
      obtain ⟨p0, p1, p2, p3, p4, p5, p6, p7, p8, p9⟩ := R1.parts
      clear hb1
      go_wp2_with fail
      ((with_reducible refine (KD.out _ B1.out).mono ?_); rintro e w2 ⟨rfl, hb2⟩)
      have R2 := Row10.keep hb2 R1
      have B2 := Lib.hid (btr B1.out hb2)
      clear p0 p1 p2 p3 p4 p5 p6 p7 p8 p9 R1 hb2 B1
      obtain ⟨p0, p1, p2, p3, p4, p5, p6, p7, p8, p9⟩ := R2.parts
      go_wp2_with fail
      ((with_reducible refine (KN.out _ B2.out).mono ?_); rintro e w3 ⟨rfl, hb3⟩)
      have B3 := Lib.hid (btr B2.out hb3)
      clear hb3
      go_wp2
      go_ret
      exact ⟨rfl, btr BW.out B3.out⟩
/-- The law, for any list of values. -/
theorem counts_any (la : Option Addr) (lc : Nat) (kids : List VT) (w : World) (hT : Tb w) (hK : KidsAt w la kids) (h1 : kids.length ≤ lc) (h2 : lc ≤ maxLen) (hi : ∀ (i : Nat) (t : VT), kids[i]? = some t → t.In w) :
    Calls Tryd.prog 8 #[.slice la kids.length lc] w fun e w' => e = .returned (.bool true) ∧ Below w.heap.size w w' := by
  have hl : kids.length ≤ 9223372036854775807 := by have := h2; unfold maxLen at this; omega
  by_cases h : 6 < kids.length
  · exact counts_long la kids.length lc w hT hl h
  · obtain ⟨bb, off, a, b⟩ := hK
    exact counts_core la lc kids bb off w hT ⟨a, b, hi, hl⟩ (by omega) h1 h2
end Go.Proofs.YtgklokjilfeklaaDoor
