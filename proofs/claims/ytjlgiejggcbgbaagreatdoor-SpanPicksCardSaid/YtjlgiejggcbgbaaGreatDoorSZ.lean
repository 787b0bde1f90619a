/-
  SpM SpN SpO SpP, one behind the other: a claim holds at most 60 files.
-/
import Derived.Test.YtjlgiejggcbgbaaGreatDoorSV
import Derived.Test.YtjlgiejggcbgbaaGreatDoorSW
import Derived.BigRegion
section
namespace Go.Proofs.YtjlgiejggcbgbaaGreatDoor
open Go.RowKit Go.Shelf
open Go.Sort (grow)
attribute [local go_sem ↓] eql_nat neq_nat eql_int5 neq_int5

theorem rofint9 (v : Int) (h0 : -9223372036854775808 ≤ v) (h1 : v < 9223372036854775808) (w : World) :
    Calls Tryz.prog 11 #[.int .i64 v] w fun e w' => e = .returned (Iz v) ∧ Below w.heap.size w w' := by
  rcases sgn v with ⟨n, rfl⟩ | ⟨n, hn, rfl⟩
  · rw [Iz_pos n (by omega)]
    exact rofint_pos _ (by omega) h1 w
  · rw [Iz_minus n hn (by omega)]
    have := rofint_neg (-(n : Int)) _ _ (by omega) h0 rfl rfl w
    rw [Int.neg_neg] at this
    exact this

theorem I5_word (g : Bool) (v : Nat) (h : v < 18446744073709551616) : I5 g v = .agg #[.bool g, .int .u64 (v : Int), .int .u64 0, .int .u64 0, .int .u64 0] := by
  obtain ⟨h0, h1, h2, h3⟩ := lb_small (v := (v : Int)) (by omega) (by omega)
  rw [Int.natAbs_natCast] at h0 h1 h2 h3
  unfold I5
  rw [h0, h1, h2, h3]
/-- One span of two numbers. -/
theorem one_any (lo hi : Int) (h0 : -9223372036854775808 ≤ lo) (h1 : lo < 9223372036854775808) (h2 : -9223372036854775808 ≤ hi) (h3 : hi < 9223372036854775808) (w : World) :
    Calls Tryz.prog 10 #[.int .i64 lo, .int .i64 hi] w fun e w' => ∃ v, e = .returned v ∧ In9 w' v [(some lo, some hi)] ∧ Below w.heap.size w w' := by
  have hlo : lo.natAbs < 2 ^ 256 := by omega
  have hhi : hi.natAbs < 2 ^ 256 := by omega
  have K1 : Hid (∀ W, Calls Tryz.prog 11 #[.int .i64 lo] W fun e w' => e = .returned (.agg #[.bool (decide (lo < 0)), .int .u64 (lb 0 lo.natAbs), .int .u64 (lb 1 lo.natAbs), .int .u64 (lb 2 lo.natAbs), .int .u64 (lb 3 lo.natAbs)]) ∧ Below W.heap.size W w') := Lib.hid (fun W => rofint9 lo h0 h1 W)
  have K2 : Hid (∀ W, Calls Tryz.prog 11 #[.int .i64 hi] W fun e w' => e = .returned (.agg #[.bool (decide (hi < 0)), .int .u64 (lb 0 hi.natAbs), .int .u64 (lb 1 hi.natAbs), .int .u64 (lb 2 hi.natAbs), .int .u64 (lb 3 hi.natAbs)]) ∧ Below W.heap.size W w') := Lib.hid (fun W => rofint9 hi h2 h3 W)
  clear h0 h1 h2 h3
  go_enter Tryz.func10, Tryz.ntmps10
  go_wp2_with fail
  ((with_reducible refine (K1.out _).mono ?_); rintro e w1 ⟨rfl, hb1⟩)
  go_wp2_with fail
  ((with_reducible refine (K2.out _).mono ?_); rintro e w2 ⟨rfl, hb2⟩)
  go_wp2
  go_ret
  refine ⟨_, rfl, ⟨some ⟨w2.heap.size, 0, none⟩, 1, w2.heap.size, 0, rfl, ⟨fun _ => rfl, fun i r hr j u hu => ?_, by simp⟩, Nat.le_refl _, ?_, ?_, ?_⟩, bal (btr hb1 hb2) _⟩
  · match i, hr with
    | 0, hr =>
      simp at hr
      subst hr
      have := news9 w2 (rsp (some lo, some hi)).cells.toArray 37 w2.heap.size rfl j u (by simpa using hu)
      rw [addr_add9] at this
      rw [show 0 + 0 * 12 + j = 0 + j by omega]
      exact this
  · unfold maxLen; omega
  · intro s hs
    obtain rfl := List.mem_singleton.1 hs
    exact ⟨fun a ha => by cases ha; exact inR_abs.2 hlo, fun a ha => by cases ha; exact inR_abs.2 hhi⟩
  · simp

theorem told_or {P : List (Int × Int)} (h : IsN P fun x => memS [(some 1, some 2)] x || memS [(some 3, some 4)] x) : P = [(1, 4)] := by
  refine h.uniq ⟨⟨by decide, by decide, by decide, trivial⟩, fun x h1 h2 => ?_⟩
  show _ = (memS [(some 1, some 2)] x || memS [(some 3, some 4)] x)
  rw [memP_cons, memP_nil, memS_cons, memS_cons]
  simp only [loE, hiE, Option.getD_some, memS, List.any_nil, Bool.or_false]
  by_cases a : 1 ≤ x <;> by_cases b : x ≤ 4 <;> by_cases c : x ≤ 2 <;> by_cases d : 3 ≤ x <;> simp [a, b, c, d] <;> omega
theorem told_same {q : Bool} (h : SameQ ([(1, 4)].map ofSp) [(some 1, some 4)] q) : q = true := h.2 fun x h1 h2 => by
  have e1 : ofSp (1, 4) = (some 1, some 4) := by unfold ofSp; rw [if_neg (by decide), if_neg (by decide)]
  rw [List.map_cons, List.map_nil, e1]
theorem told_none {P : List (Int × Int)} (h : IsN P fun x => !memS [(none, none)] x) : P = [] := by
  refine h.uniq ⟨trivial, fun x h1 h2 => ?_⟩
  show false = !memS [(none, none)] x
  rw [memS_cons]
  rw [show loE (none, none) = -topM from rfl, show hiE (none, none) = topM from rfl, decide_eq_true h1, decide_eq_true h2]
  rfl
theorem told_pick : pickT [(some (-3), some (-2))] true false = some (-2) := by decide +kernel
/-- All, as one span. -/
theorem all_one (w : World) : Calls Tryz.prog 15 #[] w fun e w' => ∃ g, e = .returned (.slice (some ⟨g, 0, none⟩) 1 1) ∧ In9 w' (.slice (some ⟨g, 0, none⟩) 1 1) [(none, none)] ∧ Below w.heap.size w w' := by
  go_enter Tryz.func15, Tryz.ntmps15
  go_wp2
  go_ret
  refine ⟨_, rfl, ⟨some ⟨w.heap.size, 0, none⟩, 1, w.heap.size, 0, rfl, ⟨fun _ => rfl, fun i r hr j u hu => ?_, by simp⟩, Nat.le_refl _, ?_, ?_, ?_⟩, bal (Below.refl _ _) _⟩
  · match i, hr with
    | 0, hr =>
      simp at hr
      subst hr
      have e1 : (rsp (none, none)).cells = (#[.bool false, .bool false, .bool false, .int .u64 0, .int .u64 0, .int .u64 0, .int .u64 0, .bool false, .int .u64 0, .int .u64 0, .int .u64 0, .int .u64 0] : Array Value).toList := zero_cells
      rw [e1] at hu
      have := news9 w _ 37 w.heap.size rfl j u hu
      rw [addr_add9] at this
      rw [show 0 + 0 * 12 + j = 0 + j by omega]
      exact this
  · unfold maxLen; omega
  · intro s hs
    obtain rfl := List.mem_singleton.1 hs
    exact ⟨fun a ha => (by cases ha), fun a ha => (by cases ha)⟩
  · simp
theorem Row12.new' (W : World) {b : Nat} (hb : W.heap.size = b) (v0 v1 v2 v3 v4 v5 v6 v7 v8 v9 v10 v11 : Value) : Row12 (W.alloc (.cells #[v0, v1, v2, v3, v4, v5, v6, v7, v8, v9, v10, v11] 37)) b v0 v1 v2 v3 v4 v5 v6 v7 v8 v9 v10 v11 := by subst hb; exact heap_alloc_new W _
theorem told_wrong (g : Nat) (W : World) (h : Row12 W g (.bool false) (.bool false) (.bool false) (.int .u64 1) (.int .u64 0) (.int .u64 0) (.int .u64 0) (.bool false) (.int .u64 0) (.int .u64 0) (.int .u64 0) (.int .u64 0)) :
    Calls Tryz.prog 16 #[.slice (some ⟨g, 0, none⟩) 1 1] W fun e w' => e = .returned (.bool false) ∧ Below W.heap.size W w' := by
  have e1 : (⟨false, false, false, 1, false, 0⟩ : RS).cells = [.bool false, .bool false, .bool false, .int .u64 1, .int .u64 0, .int .u64 0, .int .u64 0, .bool false, .int .u64 0, .int .u64 0, .int .u64 0, .int .u64 0] := by
    obtain ⟨h0, h1, h2, h3⟩ := lb_small (v := 1) (by omega) (by omega)
    simp only [RS.cells, lb_zero, show ((1 : Int).natAbs) = 1 from rfl] at *
    rw [h0, h1, h2, h3]
  have := smay (some ⟨g, 0, none⟩) 1 [⟨false, false, false, 1, false, 0⟩] g 0 W ⟨fun _ => rfl, fun i r hr j u hu => by
    match i, hr with
    | 0, hr =>
      simp at hr
      subst hr
      rw [e1] at hu
      rw [cell_of_row W g (0 + 0 * 12 + j) _ _ _ h]
      simpa using hu, by simp⟩ (by intro r hr; obtain rfl := List.mem_singleton.1 hr; exact ⟨by show 1 < 2 ^ 256; decide, by show 0 < 2 ^ 256; decide⟩)
  exact this

set_option maxRecDepth 400000 in
set_option maxHeartbeats 16000000 in
/-- entrepotlaw9.told. -/
theorem told9_true (w : World) (hT : Tb w) : Calls Tryz.prog 5 #[] w fun e w' => e = .returned (.bool true) ∧ Below w.heap.size w w' := by
  have HT := Lib.hid hT; clear hT
  have eg := enters_of Tryz.func10 (by kernel_rfl) rfl
  have k12 := Lib.hid (fun W => one_any 1 2 (by decide) (by decide) (by decide) (by decide) W)
  have k34 := Lib.hid (fun W => one_any 3 4 (by decide) (by decide) (by decide) (by decide) W)
  have k32 := Lib.hid (fun W => one_any (-3) (-2) (by decide) (by decide) (by decide) (by decide) W)
  have k14 := Lib.hid (fun W => one_any 1 4 (by decide) (by decide) (by decide) (by decide) W)
  have k10 := Lib.hid (fun W => one_any 1 0 (by decide) (by decide) (by decide) (by decide) W)
  have kn2 : Hid (∀ W, Calls Tryz.prog 11 #[.int .i64 (-2)] W fun e w' => e = .returned (.agg #[.bool true, .int .u64 2, .int .u64 0, .int .u64 0, .int .u64 0]) ∧ Below W.heap.size W w') := Lib.hid (fun W => by have := rofint9 (-2) (by decide) (by decide) W; rw [show Iz (-2) = I5 true 2 from rfl, I5_word true 2 (by decide)] at this; exact this)
  have k1 : Hid (∀ W, Calls Tryz.prog 11 #[.int .i64 1] W fun e w' => e = .returned (.agg #[.bool false, .int .u64 1, .int .u64 0, .int .u64 0, .int .u64 0]) ∧ Below W.heap.size W w') := Lib.hid (fun W => by have := rofint9 1 (by decide) (by decide) W; rw [show Iz 1 = I5 false 1 from rfl, I5_word false 1 (by decide)] at this; exact this)
  have heq : eq5 true 2 0 0 0 true 2 0 0 0 = true := by decide
  go_enter Tryz.func5, Tryz.ntmps5
  go_wp2_with (go_at_call 10; ((with_reducible refine (k12.out _).mono ?_); rintro e w1 ⟨v1, rfl, hI1, hb⟩; have I1 := Lib.hid hI1; have B1 := Lib.hid hb; clear hb hI1))
  go_wp2_with (go_at_call 10; ((with_reducible refine (k34.out _).mono ?_); rintro e w2 ⟨v2, rfl, hI2, hb⟩; have I2 := Lib.hid hI2; have I12 := Lib.hid (I1.out.keep hb); have B2 := Lib.hid (btr B1.out hb); clear hb hI2))
  ((with_reducible refine (or_in I12.out I2.out).mono ?_); rintro e w3 ⟨v3, rfl, P3, hO3, hN3, hl3, hb⟩)
  obtain rfl : P3 = [(1, 4)] := told_or hN3
  have I3 := Lib.hid (bs_in hO3 hN3 (by decide))
  have B3 := Lib.hid (btr B2.out hb)
  obtain ⟨la3, lc3, bb3, rfl, _⟩ := Bs.form hO3
  have I3 : Hid (In9 w3 (.slice la3 1 lc3) ([((1 : Int), (4 : Int))].map ofSp)) := Lib.hid I3.out
  clear hb hO3 hN3 hl3
  go_wp2_with (go_at_call 10; ((with_reducible refine (k32.out _).mono ?_); rintro e w4 ⟨v4, rfl, hI4, hb⟩; have I4 := Lib.hid hI4; have I34 := Lib.hid (I3.out.keep hb); have B4 := Lib.hid (btr B3.out hb); clear hb hI4))
  have hpk := pick_in true false I4.out (tb_on HT.out B4.out)
  rw [told_pick, show Iz ((some (-2)).getD 0) = I5 true 2 from rfl, I5_word true 2 (by decide)] at hpk
  have HPK := Lib.hid hpk
  clear hpk
  go_wp2_with fail
  ((with_reducible refine HPK.out.mono ?_); rintro e w5 ⟨rfl, hb⟩)
  have I5' := Lib.hid (I34.out.keep hb)
  have B5 := Lib.hid (btr B4.out hb)
  clear hb
  have R5 := Row5.new w5 (.bool true) (.int .u64 2) (.int .u64 0) (.int .u64 0) (.int .u64 0)
  have C5 := Lib.hid (bal B5.out (.cells #[.bool true, .int .u64 2, .int .u64 0, .int .u64 0, .int .u64 0] 29))
  have J5 := Lib.hid (I5'.out.keep (bal (Below.refl w5.heap.size w5) (.cells #[.bool true, .int .u64 2, .int .u64 0, .int .u64 0, .int .u64 0] 29)))
  go_upto_region 4 with (fail)
  go_region_held3 (fun w' => w'.cell? ⟨w5.heap.size, 0, none⟩ = some (.bool true) ∧ w'.cell? ⟨w5.heap.size, 1, none⟩ = some (.int .u64 2) ∧ w'.cell? ⟨w5.heap.size, 2, none⟩ = some (.int .u64 0) ∧ w'.cell? ⟨w5.heap.size, 3, none⟩ = some (.int .u64 0) ∧ w'.cell? ⟨w5.heap.size, 4, none⟩ = some (.int .u64 0))
    ((refine Row5.parts ?_; (repeat (first | (with_reducible assumption) | (with_reducible refine Row5.alloc ?_ _) | (with_reducible refine Row5.drew ?_) | (with_reducible refine Row5.drewN ?_ _))); done))
    (first
      | (go_at_call 10; (with_reducible refine (k14.out _).mono ?_); rintro e w6 ⟨v6, rfl, hI6, hb⟩; have I6 := Lib.hid hI6; clear hI6; have Rw6 : Row5 w6 w5.heap.size (.bool true) (.int .u64 2) (.int .u64 0) (.int .u64 0) (.int .u64 0) := Row5.keep hb (by repeat (first | (with_reducible assumption) | (with_reducible refine Row5.alloc ?_ _) | (with_reducible refine Row5.drew ?_) | (with_reducible refine Row5.drewN ?_ _))); have Bw6 : Hid (Below w.heap.size w w6) := Lib.hid (btr (by repeat (first | (with_reducible exact Bwc.out) | (with_reducible exact Bwb.out) | (with_reducible exact Bwa.out) | (with_reducible exact Bw9.out) | (with_reducible exact Bw8.out) | (with_reducible exact Bw7.out) | (with_reducible exact Bw6.out) | (with_reducible exact C5.out) | (with_reducible refine bal ?_ _) | (with_reducible refine Below.drew ?_) | (with_reducible refine bdn ?_ _))) hb); have J6 := Lib.hid (J5.out.keep (btr (by repeat (first | (with_reducible exact Below.refl _ _) | (with_reducible refine bal ?_ _) | (with_reducible refine Below.drew ?_) | (with_reducible refine bdn ?_ _))) hb)); clear hb)
      | (go_at_call 13; (with_reducible refine (same_in (J6.out.keep (by repeat (first | (with_reducible exact Below.refl _ _) | (with_reducible refine bal ?_ _) | (with_reducible refine Below.drew ?_) | (with_reducible refine bdn ?_ _)))) (I6.out.keep (by repeat (first | (with_reducible exact Below.refl _ _) | (with_reducible refine bal ?_ _) | (with_reducible refine Below.drew ?_) | (with_reducible refine bdn ?_ _))))).mono ?_); rintro e w7 ⟨q7, rfl, hq7, hb⟩; obtain rfl : q7 = true := told_same hq7; clear hq7; have Rw7 : Row5 w7 w5.heap.size (.bool true) (.int .u64 2) (.int .u64 0) (.int .u64 0) (.int .u64 0) := Row5.keep hb (by repeat (first | (with_reducible assumption) | (with_reducible refine Row5.alloc ?_ _) | (with_reducible refine Row5.drew ?_) | (with_reducible refine Row5.drewN ?_ _))); have Bw7 : Hid (Below w.heap.size w w7) := Lib.hid (btr (by repeat (first | (with_reducible exact Bwc.out) | (with_reducible exact Bwb.out) | (with_reducible exact Bwa.out) | (with_reducible exact Bw9.out) | (with_reducible exact Bw8.out) | (with_reducible exact Bw7.out) | (with_reducible exact Bw6.out) | (with_reducible exact C5.out) | (with_reducible refine bal ?_ _) | (with_reducible refine Below.drew ?_) | (with_reducible refine bdn ?_ _))) hb); clear hb)
      | (go_at_call 14; (with_reducible refine (not_in (I8.out.keep (by repeat (first | (with_reducible exact Below.refl _ _) | (with_reducible refine bal ?_ _) | (with_reducible refine Below.drew ?_) | (with_reducible refine bdn ?_ _))))).mono ?_); rintro e w9 ⟨v9, rfl, P9, hO9, hN9, hl9, hb⟩; obtain rfl : P9 = [] := told_none hN9; obtain ⟨la9, lc9, bb9, rfl, _⟩ := Bs.form hO9; clear hO9 hN9 hl9; have Rw9 : Row5 w9 w5.heap.size (.bool true) (.int .u64 2) (.int .u64 0) (.int .u64 0) (.int .u64 0) := Row5.keep hb (by repeat (first | (with_reducible assumption) | (with_reducible refine Row5.alloc ?_ _) | (with_reducible refine Row5.drew ?_) | (with_reducible refine Row5.drewN ?_ _))); have Bw9 : Hid (Below w.heap.size w w9) := Lib.hid (btr (by repeat (first | (with_reducible exact Bwc.out) | (with_reducible exact Bwb.out) | (with_reducible exact Bwa.out) | (with_reducible exact Bw9.out) | (with_reducible exact Bw8.out) | (with_reducible exact Bw7.out) | (with_reducible exact Bw6.out) | (with_reducible exact C5.out) | (with_reducible refine bal ?_ _) | (with_reducible refine Below.drew ?_) | (with_reducible refine bdn ?_ _))) hb); clear hb)
      | (go_at_call 15; (with_reducible refine (all_one _).mono ?_); rintro e w8 ⟨g8, rfl, hI8, hb⟩; have I8 := Lib.hid hI8; clear hI8; have Rw8 : Row5 w8 w5.heap.size (.bool true) (.int .u64 2) (.int .u64 0) (.int .u64 0) (.int .u64 0) := Row5.keep hb (by repeat (first | (with_reducible assumption) | (with_reducible refine Row5.alloc ?_ _) | (with_reducible refine Row5.drew ?_) | (with_reducible refine Row5.drewN ?_ _))); have Bw8 : Hid (Below w.heap.size w w8) := Lib.hid (btr (by repeat (first | (with_reducible exact Bwc.out) | (with_reducible exact Bwb.out) | (with_reducible exact Bwa.out) | (with_reducible exact Bw9.out) | (with_reducible exact Bw8.out) | (with_reducible exact Bw7.out) | (with_reducible exact Bw6.out) | (with_reducible exact C5.out) | (with_reducible refine bal ?_ _) | (with_reducible refine Below.drew ?_) | (with_reducible refine bdn ?_ _))) hb); clear hb)
      | (go_at_call 11; (with_reducible refine (kn2.out _).mono ?_); rintro e wa ⟨rfl, hb⟩; have Rwa : Row5 wa w5.heap.size (.bool true) (.int .u64 2) (.int .u64 0) (.int .u64 0) (.int .u64 0) := Row5.keep hb (by repeat (first | (with_reducible assumption) | (with_reducible refine Row5.alloc ?_ _) | (with_reducible refine Row5.drew ?_) | (with_reducible refine Row5.drewN ?_ _))); have Bwa : Hid (Below w.heap.size w wa) := Lib.hid (btr (by repeat (first | (with_reducible exact Bwc.out) | (with_reducible exact Bwb.out) | (with_reducible exact Bwa.out) | (with_reducible exact Bw9.out) | (with_reducible exact Bw8.out) | (with_reducible exact Bw7.out) | (with_reducible exact Bw6.out) | (with_reducible exact C5.out) | (with_reducible refine bal ?_ _) | (with_reducible refine Below.drew ?_) | (with_reducible refine bdn ?_ _))) hb); clear hb)
      | (go_at_call 10; (with_reducible refine (k10.out _).mono ?_); rintro e wb ⟨vb, rfl, hIb, hb⟩; have Ib := Lib.hid hIb; clear hIb; have Rwb : Row5 wb w5.heap.size (.bool true) (.int .u64 2) (.int .u64 0) (.int .u64 0) (.int .u64 0) := Row5.keep hb (by repeat (first | (with_reducible assumption) | (with_reducible refine Row5.alloc ?_ _) | (with_reducible refine Row5.drew ?_) | (with_reducible refine Row5.drewN ?_ _))); have Bwb : Hid (Below w.heap.size w wb) := Lib.hid (btr (by repeat (first | (with_reducible exact Bwc.out) | (with_reducible exact Bwb.out) | (with_reducible exact Bwa.out) | (with_reducible exact Bw9.out) | (with_reducible exact Bw8.out) | (with_reducible exact Bw7.out) | (with_reducible exact Bw6.out) | (with_reducible exact C5.out) | (with_reducible refine bal ?_ _) | (with_reducible refine Below.drew ?_) | (with_reducible refine bdn ?_ _))) hb); clear hb)
      | (go_at_call 16; (with_reducible refine (may_in (Ib.out.keep (by repeat (first | (with_reducible exact Below.refl _ _) | (with_reducible refine bal ?_ _) | (with_reducible refine Below.drew ?_) | (with_reducible refine bdn ?_ _))))).mono ?_); rintro e wc ⟨rfl, hb⟩; have Rwc : Row5 wc w5.heap.size (.bool true) (.int .u64 2) (.int .u64 0) (.int .u64 0) (.int .u64 0) := Row5.keep hb (by repeat (first | (with_reducible assumption) | (with_reducible refine Row5.alloc ?_ _) | (with_reducible refine Row5.drew ?_) | (with_reducible refine Row5.drewN ?_ _))); have Bwc : Hid (Below w.heap.size w wc) := Lib.hid (btr (by repeat (first | (with_reducible exact Bwc.out) | (with_reducible exact Bwb.out) | (with_reducible exact Bwa.out) | (with_reducible exact Bw9.out) | (with_reducible exact Bw8.out) | (with_reducible exact Bw7.out) | (with_reducible exact Bw6.out) | (with_reducible exact C5.out) | (with_reducible refine bal ?_ _) | (with_reducible refine Below.drew ?_) | (with_reducible refine bdn ?_ _))) hb); clear hb)
      | (go_at_call 11; (with_reducible refine (k1.out _).mono ?_); rintro e wa ⟨rfl, hb⟩; have Rwa : Row5 wa w5.heap.size (.bool true) (.int .u64 2) (.int .u64 0) (.int .u64 0) (.int .u64 0) := Row5.keep hb (by repeat (first | (with_reducible assumption) | (with_reducible refine Row5.alloc ?_ _) | (with_reducible refine Row5.drew ?_) | (with_reducible refine Row5.drewN ?_ _))); have Bwa : Hid (Below w.heap.size w wa) := Lib.hid (btr (by repeat (first | (with_reducible exact Bwc.out) | (with_reducible exact Bwb.out) | (with_reducible exact Bwa.out) | (with_reducible exact Bw9.out) | (with_reducible exact Bw8.out) | (with_reducible exact Bw7.out) | (with_reducible exact Bw6.out) | (with_reducible exact C5.out) | (with_reducible refine bal ?_ _) | (with_reducible refine Below.drew ?_) | (with_reducible refine bdn ?_ _))) hb); clear hb)
      | (go_at_call 16; (with_reducible refine (told_wrong _ _ (Row12.new' _ (by simp) _ _ _ _ _ _ _ _ _ _ _ _)).mono ?_); rintro e wc ⟨rfl, hb⟩; have Rwc : Row5 wc w5.heap.size (.bool true) (.int .u64 2) (.int .u64 0) (.int .u64 0) (.int .u64 0) := Row5.keep hb (by repeat (first | (with_reducible assumption) | (with_reducible refine Row5.alloc ?_ _) | (with_reducible refine Row5.drew ?_) | (with_reducible refine Row5.drewN ?_ _))); have Bwc : Hid (Below w.heap.size w wc) := Lib.hid (btr (by repeat (first | (with_reducible exact Bwc.out) | (with_reducible exact Bwb.out) | (with_reducible exact Bwa.out) | (with_reducible exact Bw9.out) | (with_reducible exact Bw8.out) | (with_reducible exact Bw7.out) | (with_reducible exact Bw6.out) | (with_reducible exact C5.out) | (with_reducible refine bal ?_ _) | (with_reducible refine Below.drew ?_) | (with_reducible refine bdn ?_ _))) hb); clear hb)
      | fail)
  all_goals
    go_wp2
    go_ret
    exact ⟨rfl, by repeat (first | (with_reducible exact Bwc.out) | (with_reducible refine bal ?_ _) | (with_reducible refine Below.drew ?_) | (with_reducible refine bdn ?_ _))⟩
end Go.Proofs.YtjlgiejggcbgbaaGreatDoor
end
section
namespace Go.Proofs.YtjlgiejggcbgbaaGreatDoor
open Go.RowKit Go.Shelf

/-- A slice that reads as spans that may be, at most so many, of these numbers. -/
def IS (w : World) (v : Value) (f : Int → Bool) (k : Nat) : Prop := ∃ A : List Sp, In9 w v A ∧ A.length ≤ k ∧ ∀ x, -topM ≤ x → x ≤ topM → memS A x = f x
/-- A slice that reads as the normal form of a set. -/
def NS (w : World) (v : Value) (f : Int → Bool) (k : Nat) : Prop := ∃ (la : Option Addr) (lc bb : Nat) (P : List (Int × Int)), v = .slice la P.length lc ∧ Ls w la (P.map fun p => rsp (ofSp p)) bb 0 ∧ P.length ≤ lc ∧ lc ≤ maxLen ∧ IsN P f ∧ P.length ≤ k
theorem IS.keep {w w' : World} {v : Value} {f : Int → Bool} {k : Nat} (h : IS w v f k) (hb : Below w.heap.size w w') : IS w' v f k := by
  obtain ⟨A, h1, h2⟩ := h
  exact ⟨A, h1.keep hb, h2⟩
theorem NS.keep {w w' : World} {v : Value} {f : Int → Bool} {k : Nat} (h : NS w v f k) (hb : Below w.heap.size w w') : NS w' v f k := by
  obtain ⟨la, lc, bb, P, h1, h2, h3⟩ := h
  exact ⟨la, lc, bb, P, h1, h2.keep hb, h3⟩
theorem NS.is {w : World} {v : Value} {f : Int → Bool} {k : Nat} (h : NS w v f k) (hk : k ≤ 1000) : IS w v f k := by
  obtain ⟨la, lc, bb, P, h1, h2, h3, h4, h5, h6⟩ := h
  refine ⟨P.map ofSp, ⟨la, lc, bb, 0, by rw [h1, List.length_map], by rw [List.map_map]; exact h2, by rw [List.length_map]; exact h3, h4, h5.rng, by rw [List.length_map]; omega⟩, by rw [List.length_map]; exact h6, fun x h1 h2 => ?_⟩
  rw [memS_of]
  exact h5.2 x h1 h2
theorem IS.nil (w : World) : IS w (.slice none 0 0) (fun _ => false) 0 := ⟨[], In9.nil w, Nat.le_refl _, fun _ _ _ => rfl⟩
theorem IS.of {w : World} {v : Value} {A : List Sp} (h : In9 w v A) : IS w v (fun x => memS A x) A.length := ⟨A, h, Nat.le_refl _, fun _ _ _ => rfl⟩
theorem Sets.ns {w w' : World} {e : Ending} {f g : Int → Bool} {k m : Nat} (h : Sets w f k e w') (hfg : ∀ x, -topM ≤ x → x ≤ topM → f x = g x) (hkm : k ≤ m) : ∃ v, e = .returned v ∧ NS w' v g m ∧ Below w.heap.size w w' := by
  obtain ⟨v, he, P, h1, h2, h3, h4⟩ := h
  obtain ⟨la, lc, bb, k1, k2, k3, k4, _⟩ := Bs.form h1
  rw [List.length_map] at k1 k3
  exact ⟨v, he, ⟨la, lc, bb, P, k1, k2, k3, k4, ⟨h2.1, fun x a b => (h2.2 x a b).trans (hfg x a b)⟩, by omega⟩, h4⟩
theorem or_is {w : World} {a b : Value} {f g : Int → Bool} {k m : Nat} (ha : IS w a f k) (hb : IS w b g m) : Calls Tryz.prog 12 #[a, b] w fun e w' => ∃ v, e = .returned v ∧ NS w' v (fun x => f x || g x) (1 + k + m) ∧ Below w.heap.size w w' := by
  obtain ⟨A, a1, a2, a3⟩ := ha
  obtain ⟨B, b1, b2, b3⟩ := hb
  exact (or_in a1 b1).mono fun e w' h => h.ns (fun x h1 h2 => by rw [a3 x h1 h2, b3 x h1 h2]) (by omega)
theorem not_is {w : World} {a : Value} {f : Int → Bool} {k : Nat} (ha : IS w a f k) : Calls Tryz.prog 14 #[a] w fun e w' => ∃ v, e = .returned v ∧ NS w' v (fun x => !f x) (1 + k) ∧ Below w.heap.size w w' := by
  obtain ⟨A, a1, a2, a3⟩ := ha
  exact (not_in a1).mono fun e w' h => h.ns (fun x h1 h2 => by rw [a3 x h1 h2]) (by omega)
theorem norm_is {w : World} {a : Value} {f : Int → Bool} {k : Nat} (ha : IS w a f k) : Calls Tryz.prog 36 #[a] w fun e w' => ∃ v, e = .returned v ∧ NS w' v f (1 + k) ∧ Below w.heap.size w w' := by
  obtain ⟨A, a1, a2, a3⟩ := ha
  exact (norm_in a1).mono fun e w' h => h.ns (fun x h1 h2 => by rw [a3 x h1 h2]) (by omega)
theorem may_is {w : World} {a : Value} {f : Int → Bool} {k : Nat} (ha : IS w a f k) : Calls Tryz.prog 16 #[a] w fun e w' => e = .returned (.bool true) ∧ Below w.heap.size w w' := by
  obtain ⟨A, a1, _⟩ := ha
  exact may_in a1
end Go.Proofs.YtjlgiejggcbgbaaGreatDoor
end
section
namespace Go.Proofs.YtjlgiejggcbgbaaGreatDoor
open Go.RowKit Go.Shelf
attribute [local go_sem ↓] eql_nat neq_nat eql_int5 neq_int5

theorem rmay_i5 (g : Bool) (x : Nat) (hx : x < 2 ^ 256) (w : World) : Calls Tryz.prog 30 #[I5 g x] w fun e w' => e = .returned (.bool (!(g && decide (x = 0)))) ∧ Below w.heap.size w w' := by
  by_cases h : g = true ∧ x = 0
  · obtain ⟨rfl, rfl⟩ := h
    exact rmay_bad w
  · refine (rmay_good g x hx h w).mono ?_
    rintro e w' ⟨rfl, hb⟩
    refine ⟨ret_bool9 ?_, hb⟩
    cases g with
    | false => rfl
    | true => rw [decide_eq_false (fun h0 => h ⟨rfl, h0⟩)]; rfl
theorem mayR_parts {hl hh gl : Bool} {xl : Nat} {gh : Bool} {xh : Nat} (h1 : xl < 2 ^ 256) (h2 : xh < 2 ^ 256) {m1 m2 e1 e2 : Bool} (k1 : (!(gl && decide (xl = 0))) = m1) (k2 : (!(gh && decide (xh = 0))) = m2)
    (k3 : eq5 gl (lb 0 xl) (lb 1 xl) (lb 2 xl) (lb 3 xl) false 0 0 0 0 = e1) (k4 : eq5 gh (lb 0 xh) (lb 1 xh) (lb 2 xh) (lb 3 xh) false 0 0 0 0 = e2) : mayR ⟨hl, hh, gl, xl, gh, xh⟩ = (m1 && m2 && (hl || e1) && (hh || e2)) := by
  unfold eq5 at k3 k4
  rw [zq xl h1] at k3
  rw [zq xh h2] at k4
  unfold mayR mayE
  subst k1 k2 k3 k4
  cases hl <;> cases hh <;> cases gl <;> cases gh <;> cases decide (xl = 0) <;> cases decide (xh = 0) <;> rfl
theorem all_bad {l : List RS} {r : RS} (h : r ∈ l) (hr : mayR r = false) : l.all mayR = false := by
  rw [← Bool.not_eq_true]
  intro ha
  have := List.all_eq_true.1 ha r h
  rw [hr] at this
  cases this
theorem all_take9 {l : List RS} {k : Nat} {t : RS} (h : l[k]? = some t) : (l.take (k + 1)).all mayR = ((l.take k).all mayR && mayR t) := by
  obtain ⟨hk, rfl⟩ := List.getElem?_eq_some_iff.1 h
  rw [List.take_succ_eq_append_getElem hk, List.all_append]
  simp
theorem rlmay_long (la : Option Addr) (n lc : Nat) (w : World) (_hn : n ≤ 9223372036854775807) (h : (1000 : Int) < (n : Int)) : Calls Tryz.prog 44 #[.slice la n lc] w fun e w' => e = .returned (.bool false) ∧ Below w.heap.size w w' := by
  go_enter Tryz.func44, Tryz.ntmps44
  go_wp2
  go_ret
  exact ⟨rfl, Below.refl _ _⟩
set_option maxRecDepth 100000 in
set_option maxHeartbeats 8000000 in
theorem rlmay (la : Option Addr) (lc : Nat) (l : List RS) (bb off : Nat) (w : World) (hK : Ls w la l bb off) (hx : ∀ r ∈ l, r.xl < 2 ^ 256 ∧ r.xh < 2 ^ 256) :
    Calls Tryz.prog 44 #[.slice la l.length lc] w fun e w' => e = .returned (.bool (mayL l)) ∧ Below w.heap.size w w' := by
  have hn := hK.len
  by_cases hlong : (1000 : Int) < (l.length : Int)
  · have : mayL l = false := by unfold mayL; rw [decide_eq_false (by omega)]; rfl
    rw [this]
    exact rlmay_long la _ lc w hn hlong
  have HML : Hid (mayL l = l.all mayR) := Lib.hid (by unfold mayL; rw [decide_eq_true (by omega)]; rfl)
  have HK := Lib.hid hK; have HX := Lib.hid hx
  clear hK hx
  go_enter Tryz.func44, Tryz.ntmps44
  go_wp2
  go_loopw [3] (fun i wr => ∃ k : Nat, k ≤ l.length ∧ i = .int .i64 k ∧ Hid (Below w.heap.size w wr) ∧ Hid ((l.take k).all mayR = true)) (fun i _ => l.length - (intOf i).toNat)
  case atStart => exact ⟨0, Nat.zero_le _, rfl, Below.refl _ _, (show Hid _ from by show _ = _; simp)⟩
  case round =>
    obtain ⟨k, hk, rfl, BW, AN⟩ := hrel
    by_cases hlt : k < l.length
    · obtain ⟨t, ht, hm⟩ := span_at hlt
      have hr := (HK.out.cells k t ht).keep BW.out
      obtain rfl : la = some ⟨bb, off, none⟩ := HK.out.la (by omega)
      have hxx := HX.out t hm
      have HNX := Lib.hid (all_take9 ht)
      have HBAD := Lib.hid (all_bad hm)
      obtain ⟨hl, hh, gl, xl, gh, xh⟩ := t
      have k1 := fun W => rmay_i5 gl xl hxx.1 W
      have k2 := fun W => rmay_i5 gh xh hxx.2 W
      obtain ⟨m1, hm1⟩ : ∃ m, (!(gl && decide (xl = 0))) = m := ⟨_, rfl⟩
      obtain ⟨m2, hm2⟩ : ∃ m, (!(gh && decide (xh = 0))) = m := ⟨_, rfl⟩
      obtain ⟨e1, he1⟩ : ∃ m, eq5 gl (lb 0 xl) (lb 1 xl) (lb 2 xl) (lb 3 xl) false 0 0 0 0 = m := ⟨_, rfl⟩
      obtain ⟨e2, he2⟩ : ∃ m, eq5 gh (lb 0 xh) (lb 1 xh) (lb 2 xh) (lb 3 xh) false 0 0 0 0 = m := ⟨_, rfl⟩
      have HMR := Lib.hid (mayR_parts (hl := hl) (hh := hh) hxx.1 hxx.2 hm1 hm2 he1 he2)
      rw [hm1] at k1
      rw [hm2] at k2
      unfold I5 at k1 k2
      have K1 := Lib.hid k1; have K2 := Lib.hid k2
      obtain ⟨c0, c1, c2, c3, c4, c5, c6, c7, c8, c9, c10, c11⟩ := hr.twelve
      clear hr ht hm hm1 hm2 k1 k2 hxx
      go_wp2_with fail
      ((with_reducible refine (K1.out _).mono ?_); rintro e w1 ⟨rfl, hb⟩)
      have X1 := Row12.keep hb (Row12.new wr (.bool hl) (.bool hh) (.bool gl) (.int .u64 (lb 0 xl)) (.int .u64 (lb 1 xl)) (.int .u64 (lb 2 xl)) (.int .u64 (lb 3 xl)) (.bool gh) (.int .u64 (lb 0 xh)) (.int .u64 (lb 1 xh)) (.int .u64 (lb 2 xh)) (.int .u64 (lb 3 xh)))
      have B1 := Lib.hid (btr (bal BW.out _) hb)
      clear hb c0 c1 c2 c3 c4 c5 c6 c7 c8 c9 c10 c11
      obtain ⟨p0, p1, p2, p3, p4, p5, p6, p7, p8, p9, p10, p11⟩ := X1.parts
      cases m1 with
      | false =>
        go_wp2
        go_ret
        exact ⟨ret_bool9 (by rw [HML.out, HBAD.out (by rw [HMR.out]; rfl)]), B1.out⟩
      | true =>
        go_wp2_with fail
        ((with_reducible refine (K2.out _).mono ?_); rintro e w2 ⟨rfl, hb⟩)
        have X2 := Row12.keep hb X1
        have B2 := Lib.hid (btr B1.out hb)
        clear hb p0 p1 p2 p3 p4 p5 p6 p7 p8 p9 p10 p11 X1
        obtain ⟨p0, p1, p2, p3, p4, p5, p6, p7, p8, p9, p10, p11⟩ := X2.parts
        cases m2 with
        | false =>
          go_wp2
          go_ret
          exact ⟨ret_bool9 (by rw [HML.out, HBAD.out (by rw [HMR.out]; rfl)]), B2.out⟩
        | true =>
          cases hl <;> cases e1 <;> cases hh <;> cases e2
          all_goals
            go_wp2
            first
            | (go_ret; exact ⟨ret_bool9 (by rw [HML.out, HBAD.out (by rw [HMR.out]; rfl)]), B2.out⟩)
            | (go_roundw
               case rel => exact ⟨k + 1, by omega, by go_num, B2.out, (show Hid _ from by show _ = _; rw [HNX.out, AN.out, HMR.out]; rfl)⟩
               case measure => simp [intOf]; omega)
    · have hge : ¬ (k : Int) < (l.length : Int) := by omega
      have HF : Hid (mayL l = true) := by
        have := AN.out
        rw [List.take_of_length_le (by omega)] at this
        show _ = _
        rw [HML.out, this]
      go_wp2
      go_ret
      exact ⟨ret_bool9 HF.out.symm, BW.out⟩

set_option maxRecDepth 100000 in
theorem has_core (la : Option Addr) (n lc : Nat) (g : Bool) (x0 x1 x2 x3 : Int) (m q c : Bool) (w : World)
    (k1 : ∀ W, Below w.heap.size w W → Calls Tryz.prog 16 #[.slice la n lc] W fun e w' => e = .returned (.bool m) ∧ Below W.heap.size W w')
    (k2 : ∀ W, Calls Tryz.prog 26 #[.agg #[.bool g, .int .u64 x0, .int .u64 x1, .int .u64 x2, .int .u64 x3]] W fun e w' => e = .returned (.bool q) ∧ Below W.heap.size W w')
    (k3 : m = true → q = true → ∀ W p, Below w.heap.size w W → Row5 W p (.bool g) (.int .u64 x0) (.int .u64 x1) (.int .u64 x2) (.int .u64 x3) → Calls Tryz.prog 27 #[.slice la n lc, .func (.func 28) #[] #[.pointer (some ⟨p, 0, none⟩)]] W fun e w' => e = .returned (.bool c) ∧ Below W.heap.size W w') :
    Calls Tryz.prog 8 #[.slice la n lc, .agg #[.bool g, .int .u64 x0, .int .u64 x1, .int .u64 x2, .int .u64 x3]] w fun e w' => e = .returned (.bool (m && q && c)) ∧ Below w.heap.size w w' := by
  have K1 := Lib.hid k1; have K2 := Lib.hid k2; have K3 := Lib.hid k3; clear k1 k2 k3
  go_enter Tryz.func8, Tryz.ntmps8
  go_wp2_with fail
  ((with_reducible refine (K1.out _ (bal (Below.refl _ _) _)).mono ?_); rintro e w1 ⟨rfl, hb⟩)
  have X1 := Row5.keep hb (Row5.new w (.bool g) (.int .u64 x0) (.int .u64 x1) (.int .u64 x2) (.int .u64 x3))
  have B1 := Lib.hid (btr (bal (Below.refl w.heap.size w) _) hb)
  clear hb
  obtain ⟨p0, p1, p2, p3, p4⟩ := X1.parts
  cases m with
  | false =>
    go_wp2
    go_ret
    exact ⟨rfl, B1.out⟩
  | true =>
    go_wp2_with fail
    ((with_reducible refine (K2.out _).mono ?_); rintro e w2 ⟨rfl, hb⟩)
    have X2 := Lib.hid (Row5.keep hb X1)
    have B2 := Lib.hid (btr B1.out hb)
    clear hb p0 p1 p2 p3 p4 X1
    cases q with
    | false =>
      go_wp2
      go_ret
      exact ⟨rfl, B2.out⟩
    | true =>
      go_wp2_with fail
      ((with_reducible refine (K3.out (by trivial) (by trivial) _ _ B2.out X2.out).mono ?_); rintro e w3 ⟨rfl, hb⟩)
      go_wp2
      go_ret
      exact ⟨rfl, btr B2.out hb⟩
/-- span.Has, of a number that may be. -/
theorem has_in {w : World} {a : Value} {A : List Sp} (hA : In9 w a A) (z : Int) (hz : inR z) : Calls Tryz.prog 8 #[a, Iz z] w fun e w' => e = .returned (.bool (memS A z)) ∧ Below w.heap.size w w' := by
  have hz' := inR_abs.1 hz
  have km := fun W hW => may_in (hA.keep (w' := W) hW)
  obtain ⟨la, lca, ba, oa, rfl, h2, h3, h4, h5, h6⟩ := hA
  have key := has_core la A.length lca (decide (z < 0)) (lb 0 z.natAbs) (lb 1 z.natAbs) (lb 2 z.natAbs) (lb 3 z.natAbs) true true (memS A z) w km (fun W => may_yes z hz' W) (fun _ _ W p hW hR => by
    have := scontains 28 #[.pointer (some ⟨p, 0, none⟩)] (enters_of Tryz.func28 (by kernel_rfl) rfl) (fun r => decide ((unrs r).1 ≤ z) && decide (z ≤ (unrs r).2)) la lca (A.map rsp) ba oa W (h2.keep hW) (fun t ht W' hW' => by
      obtain ⟨s, hs, rfl⟩ := List.mem_map.1 ht
      have := hasfn s (h5 s hs) z hz p W' (hR.keep hW')
      have e1 : unrs (rsp s) = (loE s, hiE s) := by
        obtain ⟨o1, o2⟩ := s
        unfold unrs rsp loE hiE
        cases o1 <;> cases o2 <;> simp [zof_z]
      rw [e1]
      exact this)
    rw [List.length_map, List.any_map] at this
    have e2 : A.any ((fun r => decide ((unrs r).1 ≤ z) && decide (z ≤ (unrs r).2)) ∘ rsp) = memS A z := by
      unfold memS
      congr 1
      funext s
      have e1 : unrs (rsp s) = (loE s, hiE s) := by
        obtain ⟨o1, o2⟩ := s
        unfold unrs rsp loE hiE
        cases o1 <;> cases o2 <;> simp [zof_z]
      show (decide ((unrs (rsp s)).1 ≤ z) && decide (z ≤ (unrs (rsp s)).2)) = _
      rw [e1]
    rw [e2] at this
    exact this)
  exact key
end Go.Proofs.YtjlgiejggcbgbaaGreatDoor
end
section
namespace Go.Proofs.YtjlgiejggcbgbaaGreatDoor
open Go.RowKit Go.Shelf
attribute [local go_sem ↓] eql_nat neq_nat eql_int5 neq_int5

theorem has_is {w : World} {a : Value} {f : Int → Bool} {k : Nat} (ha : IS w a f k) (z : Int) (hz : inR z) : Calls Tryz.prog 8 #[a, Iz z] w fun e w' => e = .returned (.bool (f z)) ∧ Below w.heap.size w w' := by
  obtain ⟨A, a1, a2, a3⟩ := ha
  have := has_in a1 z hz
  rw [a3 z hz.1 hz.2] at this
  exact this
theorem has_bad {w : World} {a : Value} {f : Int → Bool} {k : Nat} (ha : IS w a f k) : Calls Tryz.prog 8 #[a, I5 true 0] w fun e w' => e = .returned (.bool false) ∧ Below w.heap.size w w' := by
  obtain ⟨A, a1, a2, a3⟩ := ha
  have km := fun W hW => may_in (a1.keep (w' := W) hW)
  obtain ⟨la, lca, ba, oa, rfl, _⟩ := a1
  exact has_core la A.length lca true (lb 0 0) (lb 1 0) (lb 2 0) (lb 3 0) true false false w km (fun W => may_no W) (fun _ h => by cases h)
theorem same_is {w : World} {a b : Value} {f g : Int → Bool} {k m : Nat} (ha : IS w a f k) (hb : IS w b g m) (hfg : ∀ x, -topM ≤ x → x ≤ topM → f x = g x) : Calls Tryz.prog 13 #[a, b] w fun e w' => e = .returned (.bool true) ∧ Below w.heap.size w w' := by
  obtain ⟨A, a1, a2, a3⟩ := ha
  obtain ⟨B, b1, b2, b3⟩ := hb
  refine (same_in a1 b1).mono ?_
  rintro e w' ⟨q, rfl, hq, hb⟩
  have : q = true := hq.2 fun x h1 h2 => by rw [a3 x h1 h2, b3 x h1 h2, hfg x h1 h2]
  subst this
  exact ⟨rfl, hb⟩
theorem rmay_in {w : World} {a : Value} {A : List Sp} (hA : In9 w a A) : ∀ W, Below w.heap.size w W → Calls Tryz.prog 44 #[a] W fun e w' => e = .returned (.bool true) ∧ Below W.heap.size W w' := by
  intro W hW
  obtain ⟨la, lc, bb, off, rfl, h2, h3, h4, h5, h6⟩ := hA
  have := rlmay la lc (A.map rsp) bb off W (h2.keep hW) (rsp_bounds h5)
  rw [mayL_sp h5, decide_eq_true h6, List.length_map] at this
  exact this

theorem Iz_top : Iz topM = .agg #[.bool false, .int .u64 18446744073709551615, .int .u64 18446744073709551615, .int .u64 18446744073709551615, .int .u64 18446744073709551615] := by
  obtain ⟨h0, h1, h2, h3⟩ := topM_lb
  unfold Iz I5
  rw [h0, h1, h2, h3]
  rfl
theorem rend_any (g : Bool) (w : World) : Calls Tryz.prog 47 #[.bool g] w fun e w' => e = .returned (.agg #[.bool g, .int .u64 18446744073709551615, .int .u64 18446744073709551615, .int .u64 18446744073709551615, .int .u64 18446744073709551615]) ∧ ∃ o : Obj, w' = w.alloc o := by
  go_enter Tryz.func47, Tryz.ntmps47
  go_wp2
  exact bodyPost_ret (v := .agg #[.bool g, .int .u64 18446744073709551615, .int .u64 18446744073709551615, .int .u64 18446744073709551615, .int .u64 18446744073709551615]) (by simp [results, Tryz.results47, go_sem]) rfl ⟨rfl, _, rfl⟩
/-- An end's value, or the last number there is on its side. -/
def endV (t g m : Bool) (a0 a1 a2 a3 : Int) : Value := if t then .agg #[.bool g, .int .u64 a0, .int .u64 a1, .int .u64 a2, .int .u64 a3] else .agg #[.bool m, .int .u64 18446744073709551615, .int .u64 18446744073709551615, .int .u64 18446744073709551615, .int .u64 18446744073709551615]
set_option maxRecDepth 100000 in
set_option maxHeartbeats 4000000 in
theorem rends_tt (gl : Bool) (a0 a1 a2 a3 : Int) (gh : Bool) (b0 b1 b2 b3 : Int) (w : World) :
    Calls Tryz.prog 22 #[V12 true true gl a0 a1 a2 a3 gh b0 b1 b2 b3] w fun e w' => e = .returned (.tuple #[.agg #[.bool gl, .int .u64 a0, .int .u64 a1, .int .u64 a2, .int .u64 a3], .agg #[.bool gh, .int .u64 b0, .int .u64 b1, .int .u64 b2, .int .u64 b3]]) ∧ Below w.heap.size w w' := by
  have K1 := Lib.hid (fun W => rend_any true W); have K2 := Lib.hid (fun W => rend_any false W)
  go_enter Tryz.func22, Tryz.ntmps22
  go_wp2
  go_region
  all_goals
    go_wp2_with fail
    go_region
    all_goals
      go_wp2
      exact bodyPost_ret (v := .tuple #[.agg #[.bool gl, .int .u64 a0, .int .u64 a1, .int .u64 a2, .int .u64 a3], .agg #[.bool gh, .int .u64 b0, .int .u64 b1, .int .u64 b2, .int .u64 b3]]) (by simp [results, Tryz.results22, go_sem]) rfl ⟨rfl, by repeat (first | (with_reducible exact Below.refl _ _) | (with_reducible refine bal ?_ _) | (with_reducible refine Below.drew ?_) | (with_reducible refine bdn ?_ _) | ((with_reducible refine bsc ?_ ?_ _); rotate_left; (focus (simp only []; omega))))⟩
set_option maxRecDepth 100000 in
set_option maxHeartbeats 4000000 in
theorem rends_tf (gl : Bool) (a0 a1 a2 a3 : Int) (gh : Bool) (b0 b1 b2 b3 : Int) (w : World) :
    Calls Tryz.prog 22 #[V12 true false gl a0 a1 a2 a3 gh b0 b1 b2 b3] w fun e w' => e = .returned (.tuple #[.agg #[.bool gl, .int .u64 a0, .int .u64 a1, .int .u64 a2, .int .u64 a3], .agg #[.bool false, .int .u64 18446744073709551615, .int .u64 18446744073709551615, .int .u64 18446744073709551615, .int .u64 18446744073709551615]]) ∧ Below w.heap.size w w' := by
  have K1 := Lib.hid (fun W => rend_any true W); have K2 := Lib.hid (fun W => rend_any false W)
  go_enter Tryz.func22, Tryz.ntmps22
  go_wp2
  go_region
  all_goals
    go_wp2_with (first | (go_at_call 47; ((with_reducible refine (K2.out _).mono ?_); rintro e w2 ⟨rfl, o2, rfl⟩)))
    go_region
    all_goals
      go_wp2
      exact bodyPost_ret (v := .tuple #[.agg #[.bool gl, .int .u64 a0, .int .u64 a1, .int .u64 a2, .int .u64 a3], .agg #[.bool false, .int .u64 18446744073709551615, .int .u64 18446744073709551615, .int .u64 18446744073709551615, .int .u64 18446744073709551615]]) (by simp [results, Tryz.results22, go_sem]) rfl ⟨rfl, by repeat (first | (with_reducible exact Below.refl _ _) | (with_reducible refine bal ?_ _) | (with_reducible refine Below.drew ?_) | (with_reducible refine bdn ?_ _) | ((with_reducible refine bsc ?_ ?_ _); rotate_left; (focus (simp only []; omega))))⟩
set_option maxRecDepth 100000 in
set_option maxHeartbeats 4000000 in
theorem rends_ft (gl : Bool) (a0 a1 a2 a3 : Int) (gh : Bool) (b0 b1 b2 b3 : Int) (w : World) :
    Calls Tryz.prog 22 #[V12 false true gl a0 a1 a2 a3 gh b0 b1 b2 b3] w fun e w' => e = .returned (.tuple #[.agg #[.bool true, .int .u64 18446744073709551615, .int .u64 18446744073709551615, .int .u64 18446744073709551615, .int .u64 18446744073709551615], .agg #[.bool gh, .int .u64 b0, .int .u64 b1, .int .u64 b2, .int .u64 b3]]) ∧ Below w.heap.size w w' := by
  have K1 := Lib.hid (fun W => rend_any true W); have K2 := Lib.hid (fun W => rend_any false W)
  go_enter Tryz.func22, Tryz.ntmps22
  go_wp2
  go_region
  all_goals
    go_wp2_with (first | (go_at_call 47; ((with_reducible refine (K1.out _).mono ?_); rintro e w1 ⟨rfl, o1, rfl⟩)))
    go_region
    all_goals
      go_wp2
      exact bodyPost_ret (v := .tuple #[.agg #[.bool true, .int .u64 18446744073709551615, .int .u64 18446744073709551615, .int .u64 18446744073709551615, .int .u64 18446744073709551615], .agg #[.bool gh, .int .u64 b0, .int .u64 b1, .int .u64 b2, .int .u64 b3]]) (by simp [results, Tryz.results22, go_sem]) rfl ⟨rfl, by repeat (first | (with_reducible exact Below.refl _ _) | (with_reducible refine bal ?_ _) | (with_reducible refine Below.drew ?_) | (with_reducible refine bdn ?_ _) | ((with_reducible refine bsc ?_ ?_ _); rotate_left; (focus (simp only []; omega))))⟩
set_option maxRecDepth 100000 in
set_option maxHeartbeats 4000000 in
theorem rends_ff (gl : Bool) (a0 a1 a2 a3 : Int) (gh : Bool) (b0 b1 b2 b3 : Int) (w : World) :
    Calls Tryz.prog 22 #[V12 false false gl a0 a1 a2 a3 gh b0 b1 b2 b3] w fun e w' => e = .returned (.tuple #[.agg #[.bool true, .int .u64 18446744073709551615, .int .u64 18446744073709551615, .int .u64 18446744073709551615, .int .u64 18446744073709551615], .agg #[.bool false, .int .u64 18446744073709551615, .int .u64 18446744073709551615, .int .u64 18446744073709551615, .int .u64 18446744073709551615]]) ∧ Below w.heap.size w w' := by
  have K1 := Lib.hid (fun W => rend_any true W); have K2 := Lib.hid (fun W => rend_any false W)
  go_enter Tryz.func22, Tryz.ntmps22
  go_wp2
  go_region
  all_goals
    go_wp2_with (first | (go_at_call 47; ((with_reducible refine (K1.out _).mono ?_); rintro e w1 ⟨rfl, o1, rfl⟩)) | (go_at_call 47; ((with_reducible refine (K2.out _).mono ?_); rintro e w2 ⟨rfl, o2, rfl⟩)))
    go_region
    all_goals
      go_wp2
      exact bodyPost_ret (v := .tuple #[.agg #[.bool true, .int .u64 18446744073709551615, .int .u64 18446744073709551615, .int .u64 18446744073709551615, .int .u64 18446744073709551615], .agg #[.bool false, .int .u64 18446744073709551615, .int .u64 18446744073709551615, .int .u64 18446744073709551615, .int .u64 18446744073709551615]]) (by simp [results, Tryz.results22, go_sem]) rfl ⟨rfl, by repeat (first | (with_reducible exact Below.refl _ _) | (with_reducible refine bal ?_ _) | (with_reducible refine Below.drew ?_) | (with_reducible refine bdn ?_ _) | ((with_reducible refine bsc ?_ ?_ _); rotate_left; (focus (simp only []; omega))))⟩
theorem rends_core (hl hh gl : Bool) (a0 a1 a2 a3 : Int) (gh : Bool) (b0 b1 b2 b3 : Int) (w : World) :
    Calls Tryz.prog 22 #[V12 hl hh gl a0 a1 a2 a3 gh b0 b1 b2 b3] w fun e w' => e = .returned (.tuple #[endV hl gl true a0 a1 a2 a3, endV hh gh false b0 b1 b2 b3]) ∧ Below w.heap.size w w' := by
  cases hl <;> cases hh
  · exact rends_ff gl a0 a1 a2 a3 gh b0 b1 b2 b3 w
  · exact rends_ft gl a0 a1 a2 a3 gh b0 b1 b2 b3 w
  · exact rends_tf gl a0 a1 a2 a3 gh b0 b1 b2 b3 w
  · exact rends_tt gl a0 a1 a2 a3 gh b0 b1 b2 b3 w
theorem rends_any (s : Sp) (w : World) : Calls Tryz.prog 22 #[(rsp s).val] w fun e w' => e = .returned (.tuple #[Iz (loE s), Iz (hiE s)]) ∧ Below w.heap.size w w' := by
  refine (rends_core _ _ _ _ _ _ _ _ _ _ _ _ w).mono ?_
  rintro e w' ⟨rfl, hb⟩
  refine ⟨?_, hb⟩
  obtain ⟨o1, o2⟩ := s
  have e1 : endV (rsp (o1, o2)).hl (rsp (o1, o2)).gl true (lb 0 (rsp (o1, o2)).xl) (lb 1 (rsp (o1, o2)).xl) (lb 2 (rsp (o1, o2)).xl) (lb 3 (rsp (o1, o2)).xl) = Iz (loE (o1, o2)) := by
    cases o1 with
    | none => exact Iz_least.symm
    | some a => rfl
  have e2 : endV (rsp (o1, o2)).hh (rsp (o1, o2)).gh false (lb 0 (rsp (o1, o2)).xh) (lb 1 (rsp (o1, o2)).xh) (lb 2 (rsp (o1, o2)).xh) (lb 3 (rsp (o1, o2)).xh) = Iz (hiE (o1, o2)) := by
    cases o2 with
    | none => exact Iz_top.symm
    | some a => rfl
  rw [e1, e2]
/-- A span holds a number. -/
def pz (z : Int) (s : Sp) : Bool := decide (loE s ≤ z) && decide (z ≤ hiE s)
end Go.Proofs.YtjlgiejggcbgbaaGreatDoor
end
