/-
  SpM SpP, one behind the other: a claim holds at most 60 files.
-/
import Derived.Test.YtjlgiejggcbgbaaDoorSV
import Derived.Test.YtjlgiejggcbgbaaDoorSW
import Derived.BigRegion
section
namespace Go.Proofs.YtjlgiejggcbgbaaDoor
open Go.RowKit Go.Shelf
open Go.Sort (grow)
attribute [local go_sem ↓] eql_nat neq_nat eql_int5 neq_int5

theorem rofint9 (v : Int) (h0 : -9223372036854775808 ≤ v) (h1 : v < 9223372036854775808) (w : World) :
    Calls Tryd.prog 20 #[.int .i64 v] w fun e w' => e = .returned (Iz v) ∧ Below w.heap.size w w' := by
  rcases sgn v with ⟨n, rfl⟩ | ⟨n, hn, rfl⟩
  · rw [Iz_pos n (by omega)]
    exact rofint_pos _ (by omega) h1 w
  · rw [Iz_minus n hn (by omega)]
    have := rofint_neg (-(n : Int)) _ _ (by omega) h0 rfl rfl w
    rw [Int.neg_neg] at this
    exact this

theorem I5_word (g : Bool) (v : Nat) (h : v < 18446744073709551616) : I5 g v = .agg #[.bool g, .int .u64 (v : Int), .int .u64 0, .int .u64 0, .int .u64 0] := by
  obtain ⟨h0, h1, h2, h3⟩ := lb_small (v := (v : Int)) (by omega) (by omega)
  rw [Int.natAbs_natCast] at h0 h1 h2 h3
  unfold I5
  rw [h0, h1, h2, h3]
/-- One span of two numbers. -/
theorem one_any (lo hi : Int) (h0 : -9223372036854775808 ≤ lo) (h1 : lo < 9223372036854775808) (h2 : -9223372036854775808 ≤ hi) (h3 : hi < 9223372036854775808) (w : World) :
    Calls Tryd.prog 19 #[.int .i64 lo, .int .i64 hi] w fun e w' => ∃ v, e = .returned v ∧ In9 w' v [(some lo, some hi)] ∧ Below w.heap.size w w' := by
  have hlo : lo.natAbs < 2 ^ 256 := by omega
  have hhi : hi.natAbs < 2 ^ 256 := by omega
  have K1 : Hid (∀ W, Calls Tryd.prog 20 #[.int .i64 lo] W fun e w' => e = .returned (.agg #[.bool (decide (lo < 0)), .int .u64 (lb 0 lo.natAbs), .int .u64 (lb 1 lo.natAbs), .int .u64 (lb 2 lo.natAbs), .int .u64 (lb 3 lo.natAbs)]) ∧ Below W.heap.size W w') := Lib.hid (fun W => rofint9 lo h0 h1 W)
  have K2 : Hid (∀ W, Calls Tryd.prog 20 #[.int .i64 hi] W fun e w' => e = .returned (.agg #[.bool (decide (hi < 0)), .int .u64 (lb 0 hi.natAbs), .int .u64 (lb 1 hi.natAbs), .int .u64 (lb 2 hi.natAbs), .int .u64 (lb 3 hi.natAbs)]) ∧ Below W.heap.size W w') := Lib.hid (fun W => rofint9 hi h2 h3 W)
  clear h0 h1 h2 h3
  go_enter Tryd.func19, Tryd.ntmps19
  go_wp2_with fail
  ((with_reducible refine (K1.out _).mono ?_); rintro e w1 ⟨rfl, hb1⟩)
  go_wp2_with fail
  ((with_reducible refine (K2.out _).mono ?_); rintro e w2 ⟨rfl, hb2⟩)
  go_wp2
  go_ret
  refine ⟨_, rfl, ⟨some ⟨w2.heap.size, 0, none⟩, 1, w2.heap.size, 0, rfl, ⟨fun _ => rfl, fun i r hr j u hu => ?_, by simp⟩, Nat.le_refl _, ?_, ?_, ?_⟩, bal (btr hb1 hb2) _⟩
  · match i, hr with
    | 0, hr =>
      simp at hr
      subst hr
      have := news9 w2 (rsp (some lo, some hi)).cells.toArray 35 w2.heap.size rfl j u (by simpa using hu)
      rw [addr_add9] at this
      rw [show 0 + 0 * 12 + j = 0 + j by omega]
      exact this
  · unfold maxLen; omega
  · intro s hs
    obtain rfl := List.mem_singleton.1 hs
    exact ⟨fun a ha => by cases ha; exact inR_abs.2 hlo, fun a ha => by cases ha; exact inR_abs.2 hhi⟩
  · simp

theorem told_or {P : List (Int × Int)} (h : IsN P fun x => memS [(some 1, some 2)] x || memS [(some 3, some 4)] x) : P = [(1, 4)] := by
  refine h.uniq ⟨⟨by decide, by decide, by decide, trivial⟩, fun x h1 h2 => ?_⟩
  show _ = (memS [(some 1, some 2)] x || memS [(some 3, some 4)] x)
  rw [memP_cons, memP_nil, memS_cons, memS_cons]
  simp only [loE, hiE, Option.getD_some, memS, List.any_nil, Bool.or_false]
  by_cases a : 1 ≤ x <;> by_cases b : x ≤ 4 <;> by_cases c : x ≤ 2 <;> by_cases d : 3 ≤ x <;> simp [a, b, c, d] <;> omega
theorem told_same {q : Bool} (h : SameQ ([(1, 4)].map ofSp) [(some 1, some 4)] q) : q = true := h.2 fun x h1 h2 => by
  have e1 : ofSp (1, 4) = (some 1, some 4) := by unfold ofSp; rw [if_neg (by decide), if_neg (by decide)]
  rw [List.map_cons, List.map_nil, e1]
theorem told_none {P : List (Int × Int)} (h : IsN P fun x => !memS [(none, none)] x) : P = [] := by
  refine h.uniq ⟨trivial, fun x h1 h2 => ?_⟩
  show false = !memS [(none, none)] x
  rw [memS_cons]
  rw [show loE (none, none) = -topM from rfl, show hiE (none, none) = topM from rfl, decide_eq_true h1, decide_eq_true h2]
  rfl
theorem told_pick : pickT [(some (-3), some (-2))] true false = some (-2) := by decide +kernel
/-- All, as one span. -/
theorem all_one (w : World) : Calls Tryd.prog 18 #[] w fun e w' => ∃ g, e = .returned (.slice (some ⟨g, 0, none⟩) 1 1) ∧ In9 w' (.slice (some ⟨g, 0, none⟩) 1 1) [(none, none)] ∧ Below w.heap.size w w' := by
  go_enter Tryd.func18, Tryd.ntmps18
  go_wp2
  go_ret
  refine ⟨_, rfl, ⟨some ⟨w.heap.size, 0, none⟩, 1, w.heap.size, 0, rfl, ⟨fun _ => rfl, fun i r hr j u hu => ?_, by simp⟩, Nat.le_refl _, ?_, ?_, ?_⟩, bal (Below.refl _ _) _⟩
  · match i, hr with
    | 0, hr =>
      simp at hr
      subst hr
      have e1 : (rsp (none, none)).cells = (#[.bool false, .bool false, .bool false, .int .u64 0, .int .u64 0, .int .u64 0, .int .u64 0, .bool false, .int .u64 0, .int .u64 0, .int .u64 0, .int .u64 0] : Array Value).toList := zero_cells
      rw [e1] at hu
      have := news9 w _ 35 w.heap.size rfl j u hu
      rw [addr_add9] at this
      rw [show 0 + 0 * 12 + j = 0 + j by omega]
      exact this
  · unfold maxLen; omega
  · intro s hs
    obtain rfl := List.mem_singleton.1 hs
    exact ⟨fun a ha => (by cases ha), fun a ha => (by cases ha)⟩
  · simp
theorem Row12.new' (W : World) {b : Nat} (hb : W.heap.size = b) (v0 v1 v2 v3 v4 v5 v6 v7 v8 v9 v10 v11 : Value) : Row12 (W.alloc (.cells #[v0, v1, v2, v3, v4, v5, v6, v7, v8, v9, v10, v11] 35)) b v0 v1 v2 v3 v4 v5 v6 v7 v8 v9 v10 v11 := by subst hb; exact heap_alloc_new W _
theorem told_wrong (g : Nat) (W : World) (h : Row12 W g (.bool false) (.bool false) (.bool false) (.int .u64 1) (.int .u64 0) (.int .u64 0) (.int .u64 0) (.bool false) (.int .u64 0) (.int .u64 0) (.int .u64 0) (.int .u64 0)) :
    Calls Tryd.prog 6 #[.slice (some ⟨g, 0, none⟩) 1 1] W fun e w' => e = .returned (.bool false) ∧ Below W.heap.size W w' := by
  have e1 : (⟨false, false, false, 1, false, 0⟩ : RS).cells = [.bool false, .bool false, .bool false, .int .u64 1, .int .u64 0, .int .u64 0, .int .u64 0, .bool false, .int .u64 0, .int .u64 0, .int .u64 0, .int .u64 0] := by
    obtain ⟨h0, h1, h2, h3⟩ := lb_small (v := 1) (by omega) (by omega)
    simp only [RS.cells, lb_zero, show ((1 : Int).natAbs) = 1 from rfl] at *
    rw [h0, h1, h2, h3]
  have := smay (some ⟨g, 0, none⟩) 1 [⟨false, false, false, 1, false, 0⟩] g 0 W ⟨fun _ => rfl, fun i r hr j u hu => by
    match i, hr with
    | 0, hr =>
      simp at hr
      subst hr
      rw [e1] at hu
      rw [cell_of_row W g (0 + 0 * 12 + j) _ _ _ h]
      simpa using hu, by simp⟩ (by intro r hr; obtain rfl := List.mem_singleton.1 hr; exact ⟨by show 1 < 2 ^ 256; decide, by show 0 < 2 ^ 256; decide⟩)
  exact this

set_option maxRecDepth 400000 in
set_option maxHeartbeats 16000000 in
/-- entrepotlaw9.told. -/
theorem told9_true (w : World) (hT : Tb w) : Calls Tryd.prog 5 #[] w fun e w' => e = .returned (.bool true) ∧ Below w.heap.size w w' := by
  have HT := Lib.hid hT; clear hT
  have eg := enters_of Tryd.func19 (by kernel_rfl) rfl
  have k12 := Lib.hid (fun W => one_any 1 2 (by decide) (by decide) (by decide) (by decide) W)
  have k34 := Lib.hid (fun W => one_any 3 4 (by decide) (by decide) (by decide) (by decide) W)
  have k32 := Lib.hid (fun W => one_any (-3) (-2) (by decide) (by decide) (by decide) (by decide) W)
  have k14 := Lib.hid (fun W => one_any 1 4 (by decide) (by decide) (by decide) (by decide) W)
  have k10 := Lib.hid (fun W => one_any 1 0 (by decide) (by decide) (by decide) (by decide) W)
  have kn2 : Hid (∀ W, Calls Tryd.prog 20 #[.int .i64 (-2)] W fun e w' => e = .returned (.agg #[.bool true, .int .u64 2, .int .u64 0, .int .u64 0, .int .u64 0]) ∧ Below W.heap.size W w') := Lib.hid (fun W => by have := rofint9 (-2) (by decide) (by decide) W; rw [show Iz (-2) = I5 true 2 from rfl, I5_word true 2 (by decide)] at this; exact this)
  have k1 : Hid (∀ W, Calls Tryd.prog 20 #[.int .i64 1] W fun e w' => e = .returned (.agg #[.bool false, .int .u64 1, .int .u64 0, .int .u64 0, .int .u64 0]) ∧ Below W.heap.size W w') := Lib.hid (fun W => by have := rofint9 1 (by decide) (by decide) W; rw [show Iz 1 = I5 false 1 from rfl, I5_word false 1 (by decide)] at this; exact this)
  have heq : eq5 true 2 0 0 0 true 2 0 0 0 = true := by decide
  go_enter Tryd.func5, Tryd.ntmps5
  go_wp2_with (go_at_call 19; ((with_reducible refine (k12.out _).mono ?_); rintro e w1 ⟨v1, rfl, hI1, hb⟩; have I1 := Lib.hid hI1; have B1 := Lib.hid hb; clear hb hI1))
  go_wp2_with (go_at_call 19; ((with_reducible refine (k34.out _).mono ?_); rintro e w2 ⟨v2, rfl, hI2, hb⟩; have I2 := Lib.hid hI2; have I12 := Lib.hid (I1.out.keep hb); have B2 := Lib.hid (btr B1.out hb); clear hb hI2))
  ((with_reducible refine (or_in I12.out I2.out).mono ?_); rintro e w3 ⟨v3, rfl, P3, hO3, hN3, hl3, hb⟩)
  obtain rfl : P3 = [(1, 4)] := told_or hN3
  have I3 := Lib.hid (bs_in hO3 hN3 (by decide))
  have B3 := Lib.hid (btr B2.out hb)
  obtain ⟨la3, lc3, bb3, rfl, _⟩ := Bs.form hO3
  have I3 : Hid (In9 w3 (.slice la3 1 lc3) ([((1 : Int), (4 : Int))].map ofSp)) := Lib.hid I3.out
  clear hb hO3 hN3 hl3
  go_wp2_with (go_at_call 19; ((with_reducible refine (k32.out _).mono ?_); rintro e w4 ⟨v4, rfl, hI4, hb⟩; have I4 := Lib.hid hI4; have I34 := Lib.hid (I3.out.keep hb); have B4 := Lib.hid (btr B3.out hb); clear hb hI4))
  have hpk := pick_in true false I4.out (tb_on HT.out B4.out)
  rw [told_pick, show Iz ((some (-2)).getD 0) = I5 true 2 from rfl, I5_word true 2 (by decide)] at hpk
  have HPK := Lib.hid hpk
  clear hpk
  go_wp2_with fail
  ((with_reducible refine HPK.out.mono ?_); rintro e w5 ⟨rfl, hb⟩)
  have I5' := Lib.hid (I34.out.keep hb)
  have B5 := Lib.hid (btr B4.out hb)
  clear hb
  have R5 := Row5.new w5 (.bool true) (.int .u64 2) (.int .u64 0) (.int .u64 0) (.int .u64 0)
  have C5 := Lib.hid (bal B5.out (.cells #[.bool true, .int .u64 2, .int .u64 0, .int .u64 0, .int .u64 0] 33))
  have J5 := Lib.hid (I5'.out.keep (bal (Below.refl w5.heap.size w5) (.cells #[.bool true, .int .u64 2, .int .u64 0, .int .u64 0, .int .u64 0] 33)))
  go_upto_region 4 with (fail)
  go_region_held3 (fun w' => w'.cell? ⟨w5.heap.size, 0, none⟩ = some (.bool true) ∧ w'.cell? ⟨w5.heap.size, 1, none⟩ = some (.int .u64 2) ∧ w'.cell? ⟨w5.heap.size, 2, none⟩ = some (.int .u64 0) ∧ w'.cell? ⟨w5.heap.size, 3, none⟩ = some (.int .u64 0) ∧ w'.cell? ⟨w5.heap.size, 4, none⟩ = some (.int .u64 0))
    ((refine Row5.parts ?_; (repeat (first | (with_reducible assumption) | (with_reducible refine Row5.alloc ?_ _) | (with_reducible refine Row5.drew ?_) | (with_reducible refine Row5.drewN ?_ _))); done))
    (first
      | (go_at_call 19; (with_reducible refine (k14.out _).mono ?_); rintro e w6 ⟨v6, rfl, hI6, hb⟩; have I6 := Lib.hid hI6; clear hI6; have Rw6 : Row5 w6 w5.heap.size (.bool true) (.int .u64 2) (.int .u64 0) (.int .u64 0) (.int .u64 0) := Row5.keep hb (by repeat (first | (with_reducible assumption) | (with_reducible refine Row5.alloc ?_ _) | (with_reducible refine Row5.drew ?_) | (with_reducible refine Row5.drewN ?_ _))); have Bw6 : Hid (Below w.heap.size w w6) := Lib.hid (btr (by repeat (first | (with_reducible exact Bwc.out) | (with_reducible exact Bwb.out) | (with_reducible exact Bwa.out) | (with_reducible exact Bw9.out) | (with_reducible exact Bw8.out) | (with_reducible exact Bw7.out) | (with_reducible exact Bw6.out) | (with_reducible exact C5.out) | (with_reducible refine bal ?_ _) | (with_reducible refine Below.drew ?_) | (with_reducible refine bdn ?_ _))) hb); have J6 := Lib.hid (J5.out.keep (btr (by repeat (first | (with_reducible exact Below.refl _ _) | (with_reducible refine bal ?_ _) | (with_reducible refine Below.drew ?_) | (with_reducible refine bdn ?_ _))) hb)); clear hb)
      | (go_at_call 17; (with_reducible refine (same_in (J6.out.keep (by repeat (first | (with_reducible exact Below.refl _ _) | (with_reducible refine bal ?_ _) | (with_reducible refine Below.drew ?_) | (with_reducible refine bdn ?_ _)))) (I6.out.keep (by repeat (first | (with_reducible exact Below.refl _ _) | (with_reducible refine bal ?_ _) | (with_reducible refine Below.drew ?_) | (with_reducible refine bdn ?_ _))))).mono ?_); rintro e w7 ⟨q7, rfl, hq7, hb⟩; obtain rfl : q7 = true := told_same hq7; clear hq7; have Rw7 : Row5 w7 w5.heap.size (.bool true) (.int .u64 2) (.int .u64 0) (.int .u64 0) (.int .u64 0) := Row5.keep hb (by repeat (first | (with_reducible assumption) | (with_reducible refine Row5.alloc ?_ _) | (with_reducible refine Row5.drew ?_) | (with_reducible refine Row5.drewN ?_ _))); have Bw7 : Hid (Below w.heap.size w w7) := Lib.hid (btr (by repeat (first | (with_reducible exact Bwc.out) | (with_reducible exact Bwb.out) | (with_reducible exact Bwa.out) | (with_reducible exact Bw9.out) | (with_reducible exact Bw8.out) | (with_reducible exact Bw7.out) | (with_reducible exact Bw6.out) | (with_reducible exact C5.out) | (with_reducible refine bal ?_ _) | (with_reducible refine Below.drew ?_) | (with_reducible refine bdn ?_ _))) hb); clear hb)
      | (go_at_call 11; (with_reducible refine (not_in (I8.out.keep (by repeat (first | (with_reducible exact Below.refl _ _) | (with_reducible refine bal ?_ _) | (with_reducible refine Below.drew ?_) | (with_reducible refine bdn ?_ _))))).mono ?_); rintro e w9 ⟨v9, rfl, P9, hO9, hN9, hl9, hb⟩; obtain rfl : P9 = [] := told_none hN9; obtain ⟨la9, lc9, bb9, rfl, _⟩ := Bs.form hO9; clear hO9 hN9 hl9; have Rw9 : Row5 w9 w5.heap.size (.bool true) (.int .u64 2) (.int .u64 0) (.int .u64 0) (.int .u64 0) := Row5.keep hb (by repeat (first | (with_reducible assumption) | (with_reducible refine Row5.alloc ?_ _) | (with_reducible refine Row5.drew ?_) | (with_reducible refine Row5.drewN ?_ _))); have Bw9 : Hid (Below w.heap.size w w9) := Lib.hid (btr (by repeat (first | (with_reducible exact Bwc.out) | (with_reducible exact Bwb.out) | (with_reducible exact Bwa.out) | (with_reducible exact Bw9.out) | (with_reducible exact Bw8.out) | (with_reducible exact Bw7.out) | (with_reducible exact Bw6.out) | (with_reducible exact C5.out) | (with_reducible refine bal ?_ _) | (with_reducible refine Below.drew ?_) | (with_reducible refine bdn ?_ _))) hb); clear hb)
      | (go_at_call 18; (with_reducible refine (all_one _).mono ?_); rintro e w8 ⟨g8, rfl, hI8, hb⟩; have I8 := Lib.hid hI8; clear hI8; have Rw8 : Row5 w8 w5.heap.size (.bool true) (.int .u64 2) (.int .u64 0) (.int .u64 0) (.int .u64 0) := Row5.keep hb (by repeat (first | (with_reducible assumption) | (with_reducible refine Row5.alloc ?_ _) | (with_reducible refine Row5.drew ?_) | (with_reducible refine Row5.drewN ?_ _))); have Bw8 : Hid (Below w.heap.size w w8) := Lib.hid (btr (by repeat (first | (with_reducible exact Bwc.out) | (with_reducible exact Bwb.out) | (with_reducible exact Bwa.out) | (with_reducible exact Bw9.out) | (with_reducible exact Bw8.out) | (with_reducible exact Bw7.out) | (with_reducible exact Bw6.out) | (with_reducible exact C5.out) | (with_reducible refine bal ?_ _) | (with_reducible refine Below.drew ?_) | (with_reducible refine bdn ?_ _))) hb); clear hb)
      | (go_at_call 20; (with_reducible refine (kn2.out _).mono ?_); rintro e wa ⟨rfl, hb⟩; have Rwa : Row5 wa w5.heap.size (.bool true) (.int .u64 2) (.int .u64 0) (.int .u64 0) (.int .u64 0) := Row5.keep hb (by repeat (first | (with_reducible assumption) | (with_reducible refine Row5.alloc ?_ _) | (with_reducible refine Row5.drew ?_) | (with_reducible refine Row5.drewN ?_ _))); have Bwa : Hid (Below w.heap.size w wa) := Lib.hid (btr (by repeat (first | (with_reducible exact Bwc.out) | (with_reducible exact Bwb.out) | (with_reducible exact Bwa.out) | (with_reducible exact Bw9.out) | (with_reducible exact Bw8.out) | (with_reducible exact Bw7.out) | (with_reducible exact Bw6.out) | (with_reducible exact C5.out) | (with_reducible refine bal ?_ _) | (with_reducible refine Below.drew ?_) | (with_reducible refine bdn ?_ _))) hb); clear hb)
      | (go_at_call 19; (with_reducible refine (k10.out _).mono ?_); rintro e wb ⟨vb, rfl, hIb, hb⟩; have Ib := Lib.hid hIb; clear hIb; have Rwb : Row5 wb w5.heap.size (.bool true) (.int .u64 2) (.int .u64 0) (.int .u64 0) (.int .u64 0) := Row5.keep hb (by repeat (first | (with_reducible assumption) | (with_reducible refine Row5.alloc ?_ _) | (with_reducible refine Row5.drew ?_) | (with_reducible refine Row5.drewN ?_ _))); have Bwb : Hid (Below w.heap.size w wb) := Lib.hid (btr (by repeat (first | (with_reducible exact Bwc.out) | (with_reducible exact Bwb.out) | (with_reducible exact Bwa.out) | (with_reducible exact Bw9.out) | (with_reducible exact Bw8.out) | (with_reducible exact Bw7.out) | (with_reducible exact Bw6.out) | (with_reducible exact C5.out) | (with_reducible refine bal ?_ _) | (with_reducible refine Below.drew ?_) | (with_reducible refine bdn ?_ _))) hb); clear hb)
      | (go_at_call 6; (with_reducible refine (may_in (Ib.out.keep (by repeat (first | (with_reducible exact Below.refl _ _) | (with_reducible refine bal ?_ _) | (with_reducible refine Below.drew ?_) | (with_reducible refine bdn ?_ _))))).mono ?_); rintro e wc ⟨rfl, hb⟩; have Rwc : Row5 wc w5.heap.size (.bool true) (.int .u64 2) (.int .u64 0) (.int .u64 0) (.int .u64 0) := Row5.keep hb (by repeat (first | (with_reducible assumption) | (with_reducible refine Row5.alloc ?_ _) | (with_reducible refine Row5.drew ?_) | (with_reducible refine Row5.drewN ?_ _))); have Bwc : Hid (Below w.heap.size w wc) := Lib.hid (btr (by repeat (first | (with_reducible exact Bwc.out) | (with_reducible exact Bwb.out) | (with_reducible exact Bwa.out) | (with_reducible exact Bw9.out) | (with_reducible exact Bw8.out) | (with_reducible exact Bw7.out) | (with_reducible exact Bw6.out) | (with_reducible exact C5.out) | (with_reducible refine bal ?_ _) | (with_reducible refine Below.drew ?_) | (with_reducible refine bdn ?_ _))) hb); clear hb)
      | (go_at_call 20; (with_reducible refine (k1.out _).mono ?_); rintro e wa ⟨rfl, hb⟩; have Rwa : Row5 wa w5.heap.size (.bool true) (.int .u64 2) (.int .u64 0) (.int .u64 0) (.int .u64 0) := Row5.keep hb (by repeat (first | (with_reducible assumption) | (with_reducible refine Row5.alloc ?_ _) | (with_reducible refine Row5.drew ?_) | (with_reducible refine Row5.drewN ?_ _))); have Bwa : Hid (Below w.heap.size w wa) := Lib.hid (btr (by repeat (first | (with_reducible exact Bwc.out) | (with_reducible exact Bwb.out) | (with_reducible exact Bwa.out) | (with_reducible exact Bw9.out) | (with_reducible exact Bw8.out) | (with_reducible exact Bw7.out) | (with_reducible exact Bw6.out) | (with_reducible exact C5.out) | (with_reducible refine bal ?_ _) | (with_reducible refine Below.drew ?_) | (with_reducible refine bdn ?_ _))) hb); clear hb)
      | (go_at_call 6; (with_reducible refine (told_wrong _ _ (Row12.new' _ (by simp) _ _ _ _ _ _ _ _ _ _ _ _)).mono ?_); rintro e wc ⟨rfl, hb⟩; have Rwc : Row5 wc w5.heap.size (.bool true) (.int .u64 2) (.int .u64 0) (.int .u64 0) (.int .u64 0) := Row5.keep hb (by repeat (first | (with_reducible assumption) | (with_reducible refine Row5.alloc ?_ _) | (with_reducible refine Row5.drew ?_) | (with_reducible refine Row5.drewN ?_ _))); have Bwc : Hid (Below w.heap.size w wc) := Lib.hid (btr (by repeat (first | (with_reducible exact Bwc.out) | (with_reducible exact Bwb.out) | (with_reducible exact Bwa.out) | (with_reducible exact Bw9.out) | (with_reducible exact Bw8.out) | (with_reducible exact Bw7.out) | (with_reducible exact Bw6.out) | (with_reducible exact C5.out) | (with_reducible refine bal ?_ _) | (with_reducible refine Below.drew ?_) | (with_reducible refine bdn ?_ _))) hb); clear hb)
      | fail)
  all_goals
    go_wp2
    go_ret
    exact ⟨rfl, by repeat (first | (with_reducible exact Bwc.out) | (with_reducible refine bal ?_ _) | (with_reducible refine Below.drew ?_) | (with_reducible refine bdn ?_ _))⟩
end Go.Proofs.YtjlgiejggcbgbaaDoor
end
section
namespace Go.Proofs.YtjlgiejggcbgbaaDoor
open Go.RowKit Go.Shelf
attribute [local go_sem ↓] eql_nat neq_nat eql_int5 neq_int5

theorem same_is {w : World} {a b : Value} {f g : Int → Bool} {k m : Nat} (ha : IS w a f k) (hb : IS w b g m) (hfg : ∀ x, -topM ≤ x → x ≤ topM → f x = g x) : Calls Tryd.prog 17 #[a, b] w fun e w' => e = .returned (.bool true) ∧ Below w.heap.size w w' := by
  obtain ⟨A, a1, a2, a3⟩ := ha
  obtain ⟨B, b1, b2, b3⟩ := hb
  refine (same_in a1 b1).mono ?_
  rintro e w' ⟨q, rfl, hq, hb⟩
  have : q = true := hq.2 fun x h1 h2 => by rw [a3 x h1 h2, b3 x h1 h2, hfg x h1 h2]
  subst this
  exact ⟨rfl, hb⟩
theorem rmay_in {w : World} {a : Value} {A : List Sp} (hA : In9 w a A) : ∀ W, Below w.heap.size w W → Calls Tryd.prog 7 #[a] W fun e w' => e = .returned (.bool true) ∧ Below W.heap.size W w' := by
  intro W hW
  obtain ⟨la, lc, bb, off, rfl, h2, h3, h4, h5, h6⟩ := hA
  have := rlmay la lc (A.map rsp) bb off W (h2.keep hW) (rsp_bounds h5)
  rw [mayL_sp h5, decide_eq_true h6, List.length_map] at this
  exact this

theorem Iz_top : Iz topM = .agg #[.bool false, .int .u64 18446744073709551615, .int .u64 18446744073709551615, .int .u64 18446744073709551615, .int .u64 18446744073709551615] := by
  obtain ⟨h0, h1, h2, h3⟩ := topM_lb
  unfold Iz I5
  rw [h0, h1, h2, h3]
  rfl
theorem rend_any (g : Bool) (w : World) : Calls Tryd.prog 31 #[.bool g] w fun e w' => e = .returned (.agg #[.bool g, .int .u64 18446744073709551615, .int .u64 18446744073709551615, .int .u64 18446744073709551615, .int .u64 18446744073709551615]) ∧ ∃ o : Obj, w' = w.alloc o := by
  go_enter Tryd.func31, Tryd.ntmps31
  go_wp2
  exact bodyPost_ret (v := .agg #[.bool g, .int .u64 18446744073709551615, .int .u64 18446744073709551615, .int .u64 18446744073709551615, .int .u64 18446744073709551615]) (by simp [results, Tryd.results31, go_sem]) rfl ⟨rfl, _, rfl⟩
/-- An end's value, or the last number there is on its side. -/
def endV (t g m : Bool) (a0 a1 a2 a3 : Int) : Value := if t then .agg #[.bool g, .int .u64 a0, .int .u64 a1, .int .u64 a2, .int .u64 a3] else .agg #[.bool m, .int .u64 18446744073709551615, .int .u64 18446744073709551615, .int .u64 18446744073709551615, .int .u64 18446744073709551615]
set_option maxRecDepth 100000 in
set_option maxHeartbeats 4000000 in
theorem rends_tt (gl : Bool) (a0 a1 a2 a3 : Int) (gh : Bool) (b0 b1 b2 b3 : Int) (w : World) :
    Calls Tryd.prog 25 #[V12 true true gl a0 a1 a2 a3 gh b0 b1 b2 b3] w fun e w' => e = .returned (.tuple #[.agg #[.bool gl, .int .u64 a0, .int .u64 a1, .int .u64 a2, .int .u64 a3], .agg #[.bool gh, .int .u64 b0, .int .u64 b1, .int .u64 b2, .int .u64 b3]]) ∧ Below w.heap.size w w' := by
  have K1 := Lib.hid (fun W => rend_any true W); have K2 := Lib.hid (fun W => rend_any false W)
  go_enter Tryd.func25, Tryd.ntmps25
  go_wp2
  go_region
  all_goals
    go_wp2_with fail
    go_region
    all_goals
      go_wp2
      exact bodyPost_ret (v := .tuple #[.agg #[.bool gl, .int .u64 a0, .int .u64 a1, .int .u64 a2, .int .u64 a3], .agg #[.bool gh, .int .u64 b0, .int .u64 b1, .int .u64 b2, .int .u64 b3]]) (by simp [results, Tryd.results25, go_sem]) rfl ⟨rfl, by repeat (first | (with_reducible exact Below.refl _ _) | (with_reducible refine bal ?_ _) | (with_reducible refine Below.drew ?_) | (with_reducible refine bdn ?_ _) | ((with_reducible refine bsc ?_ ?_ _); rotate_left; (focus (simp only []; omega))))⟩
set_option maxRecDepth 100000 in
set_option maxHeartbeats 4000000 in
theorem rends_tf (gl : Bool) (a0 a1 a2 a3 : Int) (gh : Bool) (b0 b1 b2 b3 : Int) (w : World) :
    Calls Tryd.prog 25 #[V12 true false gl a0 a1 a2 a3 gh b0 b1 b2 b3] w fun e w' => e = .returned (.tuple #[.agg #[.bool gl, .int .u64 a0, .int .u64 a1, .int .u64 a2, .int .u64 a3], .agg #[.bool false, .int .u64 18446744073709551615, .int .u64 18446744073709551615, .int .u64 18446744073709551615, .int .u64 18446744073709551615]]) ∧ Below w.heap.size w w' := by
  have K1 := Lib.hid (fun W => rend_any true W); have K2 := Lib.hid (fun W => rend_any false W)
  go_enter Tryd.func25, Tryd.ntmps25
  go_wp2
  go_region
  all_goals
    go_wp2_with (first | (go_at_call 31; ((with_reducible refine (K2.out _).mono ?_); rintro e w2 ⟨rfl, o2, rfl⟩)))
    go_region
    all_goals
      go_wp2
      exact bodyPost_ret (v := .tuple #[.agg #[.bool gl, .int .u64 a0, .int .u64 a1, .int .u64 a2, .int .u64 a3], .agg #[.bool false, .int .u64 18446744073709551615, .int .u64 18446744073709551615, .int .u64 18446744073709551615, .int .u64 18446744073709551615]]) (by simp [results, Tryd.results25, go_sem]) rfl ⟨rfl, by repeat (first | (with_reducible exact Below.refl _ _) | (with_reducible refine bal ?_ _) | (with_reducible refine Below.drew ?_) | (with_reducible refine bdn ?_ _) | ((with_reducible refine bsc ?_ ?_ _); rotate_left; (focus (simp only []; omega))))⟩
set_option maxRecDepth 100000 in
set_option maxHeartbeats 4000000 in
theorem rends_ft (gl : Bool) (a0 a1 a2 a3 : Int) (gh : Bool) (b0 b1 b2 b3 : Int) (w : World) :
    Calls Tryd.prog 25 #[V12 false true gl a0 a1 a2 a3 gh b0 b1 b2 b3] w fun e w' => e = .returned (.tuple #[.agg #[.bool true, .int .u64 18446744073709551615, .int .u64 18446744073709551615, .int .u64 18446744073709551615, .int .u64 18446744073709551615], .agg #[.bool gh, .int .u64 b0, .int .u64 b1, .int .u64 b2, .int .u64 b3]]) ∧ Below w.heap.size w w' := by
  have K1 := Lib.hid (fun W => rend_any true W); have K2 := Lib.hid (fun W => rend_any false W)
  go_enter Tryd.func25, Tryd.ntmps25
  go_wp2
  go_region
  all_goals
    go_wp2_with (first | (go_at_call 31; ((with_reducible refine (K1.out _).mono ?_); rintro e w1 ⟨rfl, o1, rfl⟩)))
    go_region
    all_goals
      go_wp2
      exact bodyPost_ret (v := .tuple #[.agg #[.bool true, .int .u64 18446744073709551615, .int .u64 18446744073709551615, .int .u64 18446744073709551615, .int .u64 18446744073709551615], .agg #[.bool gh, .int .u64 b0, .int .u64 b1, .int .u64 b2, .int .u64 b3]]) (by simp [results, Tryd.results25, go_sem]) rfl ⟨rfl, by repeat (first | (with_reducible exact Below.refl _ _) | (with_reducible refine bal ?_ _) | (with_reducible refine Below.drew ?_) | (with_reducible refine bdn ?_ _) | ((with_reducible refine bsc ?_ ?_ _); rotate_left; (focus (simp only []; omega))))⟩
set_option maxRecDepth 100000 in
set_option maxHeartbeats 4000000 in
theorem rends_ff (gl : Bool) (a0 a1 a2 a3 : Int) (gh : Bool) (b0 b1 b2 b3 : Int) (w : World) :
    Calls Tryd.prog 25 #[V12 false false gl a0 a1 a2 a3 gh b0 b1 b2 b3] w fun e w' => e = .returned (.tuple #[.agg #[.bool true, .int .u64 18446744073709551615, .int .u64 18446744073709551615, .int .u64 18446744073709551615, .int .u64 18446744073709551615], .agg #[.bool false, .int .u64 18446744073709551615, .int .u64 18446744073709551615, .int .u64 18446744073709551615, .int .u64 18446744073709551615]]) ∧ Below w.heap.size w w' := by
  have K1 := Lib.hid (fun W => rend_any true W); have K2 := Lib.hid (fun W => rend_any false W)
  go_enter Tryd.func25, Tryd.ntmps25
  go_wp2
  go_region
  all_goals
    go_wp2_with (first | (go_at_call 31; ((with_reducible refine (K1.out _).mono ?_); rintro e w1 ⟨rfl, o1, rfl⟩)) | (go_at_call 31; ((with_reducible refine (K2.out _).mono ?_); rintro e w2 ⟨rfl, o2, rfl⟩)))
    go_region
    all_goals
      go_wp2
      exact bodyPost_ret (v := .tuple #[.agg #[.bool true, .int .u64 18446744073709551615, .int .u64 18446744073709551615, .int .u64 18446744073709551615, .int .u64 18446744073709551615], .agg #[.bool false, .int .u64 18446744073709551615, .int .u64 18446744073709551615, .int .u64 18446744073709551615, .int .u64 18446744073709551615]]) (by simp [results, Tryd.results25, go_sem]) rfl ⟨rfl, by repeat (first | (with_reducible exact Below.refl _ _) | (with_reducible refine bal ?_ _) | (with_reducible refine Below.drew ?_) | (with_reducible refine bdn ?_ _) | ((with_reducible refine bsc ?_ ?_ _); rotate_left; (focus (simp only []; omega))))⟩
theorem rends_core (hl hh gl : Bool) (a0 a1 a2 a3 : Int) (gh : Bool) (b0 b1 b2 b3 : Int) (w : World) :
    Calls Tryd.prog 25 #[V12 hl hh gl a0 a1 a2 a3 gh b0 b1 b2 b3] w fun e w' => e = .returned (.tuple #[endV hl gl true a0 a1 a2 a3, endV hh gh false b0 b1 b2 b3]) ∧ Below w.heap.size w w' := by
  cases hl <;> cases hh
  · exact rends_ff gl a0 a1 a2 a3 gh b0 b1 b2 b3 w
  · exact rends_ft gl a0 a1 a2 a3 gh b0 b1 b2 b3 w
  · exact rends_tf gl a0 a1 a2 a3 gh b0 b1 b2 b3 w
  · exact rends_tt gl a0 a1 a2 a3 gh b0 b1 b2 b3 w
theorem rends_any (s : Sp) (w : World) : Calls Tryd.prog 25 #[(rsp s).val] w fun e w' => e = .returned (.tuple #[Iz (loE s), Iz (hiE s)]) ∧ Below w.heap.size w w' := by
  refine (rends_core _ _ _ _ _ _ _ _ _ _ _ _ w).mono ?_
  rintro e w' ⟨rfl, hb⟩
  refine ⟨?_, hb⟩
  obtain ⟨o1, o2⟩ := s
  have e1 : endV (rsp (o1, o2)).hl (rsp (o1, o2)).gl true (lb 0 (rsp (o1, o2)).xl) (lb 1 (rsp (o1, o2)).xl) (lb 2 (rsp (o1, o2)).xl) (lb 3 (rsp (o1, o2)).xl) = Iz (loE (o1, o2)) := by
    cases o1 with
    | none => exact Iz_least.symm
    | some a => rfl
  have e2 : endV (rsp (o1, o2)).hh (rsp (o1, o2)).gh false (lb 0 (rsp (o1, o2)).xh) (lb 1 (rsp (o1, o2)).xh) (lb 2 (rsp (o1, o2)).xh) (lb 3 (rsp (o1, o2)).xh) = Iz (hiE (o1, o2)) := by
    cases o2 with
    | none => exact Iz_top.symm
    | some a => rfl
  rw [e1, e2]
/-- A span holds a number. -/
def pz (z : Int) (s : Sp) : Bool := decide (loE s ≤ z) && decide (z ≤ hiE s)
end Go.Proofs.YtjlgiejggcbgbaaDoor
end
