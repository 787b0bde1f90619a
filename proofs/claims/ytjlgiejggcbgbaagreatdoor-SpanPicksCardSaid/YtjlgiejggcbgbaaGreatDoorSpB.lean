/-
  span.isEmpty, holds, Has, All; the functions that a sweep is handed: the contracts.
-/
import Derived.Test.YtjlgiejggcbgbaaGreatDoorSpA
namespace Go.Proofs.YtjlgiejggcbgbaaGreatDoor
open Go.RowKit Go.Shelf
attribute [local go_sem ↓] eql_nat neq_nat eql_int5 neq_int5

set_option maxRecDepth 100000 in
theorem isempty_core (hl hh gl : Bool) (a0 a1 a2 a3 : Int) (gh : Bool) (b0 b1 b2 b3 : Int) (c : Int) (q : Bool) (hq : q = decide (0 < c))
    (k1 : ∀ W, Calls Tryz.prog 43 #[.agg #[.bool gl, .int .u64 a0, .int .u64 a1, .int .u64 a2, .int .u64 a3], .agg #[.bool gh, .int .u64 b0, .int .u64 b1, .int .u64 b2, .int .u64 b3]] W fun e w' => e = .returned (.int .i64 c) ∧ Below W.heap.size W w') (w : World) :
    Calls Tryz.prog 78 #[V12 hl hh gl a0 a1 a2 a3 gh b0 b1 b2 b3] w fun e w' => e = .returned (.bool (hl && hh && q)) ∧ Below w.heap.size w w' := by
  have K1 := Lib.hid k1; clear k1
  have HQ := Lib.hid hq; clear hq
  go_enter Tryz.func78, Tryz.ntmps78
  cases hl with
  | false =>
    go_wp2
    go_ret
    exact ⟨rfl, bal (Below.refl _ _) _⟩
  | true =>
    cases hh with
    | false =>
      go_wp2
      go_ret
      exact ⟨rfl, bal (Below.refl _ _) _⟩
    | true =>
      go_wp2_with (go_at_call 43; ((with_reducible refine (K1.out _).mono ?_); rintro e w1 ⟨rfl, hb1⟩))
      go_ret
      exact ⟨ret_bool9 (by rw [HQ.out]; rfl), btr (bal (Below.refl _ _) _) hb1⟩
theorem cmpv_pos9 (y z : Int) : decide (0 < cmpv y z) = decide (z < y) := by unfold cmpv; split <;> (try split) <;> simp <;> omega
theorem cmpv_le9 (y z : Int) : decide (cmpv y z ≤ 0) = decide (y ≤ z) := by unfold cmpv; split <;> (try split) <;> simp <;> omega
theorem cmpv_neg9 (y z : Int) : decide (cmpv y z < 0) = decide (y < z) := by unfold cmpv; split <;> (try split) <;> simp <;> omega
/-- span.isEmpty. -/
theorem isempty_any (s : Sp) (h : SpR s) (w : World) : Calls Tryz.prog 78 #[(rsp s).val] w fun e w' => e = .returned (.bool (decide (hiE s < loE s))) ∧ Below w.heap.size w w' := by
  have hlo : (s.1.getD 0).natAbs < 2 ^ 256 := (rsp_may h).2.1
  have hhi : (s.2.getD 0).natAbs < 2 ^ 256 := (rsp_may h).2.2
  refine (isempty_core _ _ _ _ _ _ _ _ _ _ _ _ (cmpv (s.1.getD 0) (s.2.getD 0)) _ rfl (fun W => cmp_z _ _ hlo hhi W) w).mono ?_
  rintro e w' ⟨rfl, hb⟩
  refine ⟨ret_bool9 ?_, hb⟩
  rw [cmpv_pos9]
  have h1 := h.lo
  have h2 := h.hi
  have := topM_pos
  obtain ⟨o1, o2⟩ := s
  unfold loE hiE rsp at *
  cases o1 with
  | none =>
    simp only [Option.isSome_none, Option.getD_none, Bool.false_and] at *
    exact (decide_eq_false (by omega)).symm
  | some a =>
    cases o2 with
    | none =>
      simp only [Option.isSome_none, Option.getD_none, Option.isSome_some, Option.getD_some, Bool.and_false, Bool.false_and] at *
      exact (decide_eq_false (by omega)).symm
    | some b => rfl

set_option maxRecDepth 100000 in
theorem holds_core (hl hh gl : Bool) (a0 a1 a2 a3 : Int) (gh : Bool) (b0 b1 b2 b3 : Int) (g : Bool) (x0 x1 x2 x3 : Int) (c d : Int) (p q : Bool) (hp : p = decide (c ≤ 0)) (hq : q = decide (d ≤ 0))
    (k1 : ∀ W, Calls Tryz.prog 43 #[.agg #[.bool gl, .int .u64 a0, .int .u64 a1, .int .u64 a2, .int .u64 a3], .agg #[.bool g, .int .u64 x0, .int .u64 x1, .int .u64 x2, .int .u64 x3]] W fun e w' => e = .returned (.int .i64 c) ∧ Below W.heap.size W w')
    (k2 : ∀ W, Calls Tryz.prog 43 #[.agg #[.bool g, .int .u64 x0, .int .u64 x1, .int .u64 x2, .int .u64 x3], .agg #[.bool gh, .int .u64 b0, .int .u64 b1, .int .u64 b2, .int .u64 b3]] W fun e w' => e = .returned (.int .i64 d) ∧ Below W.heap.size W w') (w : World) :
    Calls Tryz.prog 19 #[V12 hl hh gl a0 a1 a2 a3 gh b0 b1 b2 b3, .agg #[.bool g, .int .u64 x0, .int .u64 x1, .int .u64 x2, .int .u64 x3]] w fun e w' => e = .returned (.bool ((!hl || p) && (!hh || q))) ∧ Below w.heap.size w w' := by
  have K1 := Lib.hid k1; have K2 := Lib.hid k2; clear k1 k2
  go_enter Tryz.func19, Tryz.ntmps19
  have X0 := Row12.alloc (Row12.new w (.bool hl) (.bool hh) (.bool gl) (.int .u64 a0) (.int .u64 a1) (.int .u64 a2) (.int .u64 a3) (.bool gh) (.int .u64 b0) (.int .u64 b1) (.int .u64 b2) (.int .u64 b3)) (.cells #[.bool g, .int .u64 x0, .int .u64 x1, .int .u64 x2, .int .u64 x3] 29)
  have Y0 := Row5.new (w.alloc (.cells #[.bool hl, .bool hh, .bool gl, .int .u64 a0, .int .u64 a1, .int .u64 a2, .int .u64 a3, .bool gh, .int .u64 b0, .int .u64 b1, .int .u64 b2, .int .u64 b3] 37)) (.bool g) (.int .u64 x0) (.int .u64 x1) (.int .u64 x2) (.int .u64 x3)
  have B0 := Lib.hid (bal (bal (Below.refl w.heap.size w) (.cells #[.bool hl, .bool hh, .bool gl, .int .u64 a0, .int .u64 a1, .int .u64 a2, .int .u64 a3, .bool gh, .int .u64 b0, .int .u64 b1, .int .u64 b2, .int .u64 b3] 37)) (.cells #[.bool g, .int .u64 x0, .int .u64 x1, .int .u64 x2, .int .u64 x3] 29))
  rw [size_alloc9] at Y0
  cases hl with
  | true =>
    subst hp
    by_cases hc : c ≤ 0
    · go_wp2_with fail
      ((with_reducible refine (K1.out _).mono ?_); rintro e w1 ⟨rfl, hb⟩)
      have X1 := Row12.keep hb X0
      have Y1 := Row5.keep hb Y0
      have B1 := Lib.hid (btr B0.out hb)
      clear hb X0 Y0
      obtain ⟨p0, p1, p2, p3, p4, p5, p6, p7, p8, p9, p10, p11⟩ := X1.parts
      obtain ⟨q0, q1, q2, q3, q4⟩ := Y1.parts
      have HP := Lib.hid (decide_eq_true hc)
      cases hh with
      | true =>
        go_wp2_with fail
        ((with_reducible refine (K2.out _).mono ?_); rintro e w2 ⟨rfl, hb2⟩)
        go_wp2
        go_ret
        exact ⟨ret_bool9 (by rw [HP.out, hq]; rfl), btr B1.out hb2⟩
      | false =>
        go_wp2
        go_ret
        exact ⟨ret_bool9 (by rw [HP.out]; rfl), B1.out⟩
    · have HP := Lib.hid (decide_eq_false hc)
      go_wp2_with fail
      ((with_reducible refine (K1.out _).mono ?_); rintro e w1 ⟨rfl, hb⟩)
      go_wp2
      go_ret
      exact ⟨ret_bool9 (by rw [HP.out]; rfl), btr B0.out hb⟩
  | false =>
    obtain ⟨q0, q1, q2, q3, q4⟩ := Y0.parts
    cases hh with
    | true =>
      go_wp2_with fail
      ((with_reducible refine (K2.out _).mono ?_); rintro e w2 ⟨rfl, hb2⟩)
      go_wp2
      go_ret
      exact ⟨ret_bool9 (by rw [hq]; rfl), btr B0.out hb2⟩
    | false =>
      go_wp2
      go_ret
      exact ⟨rfl, B0.out⟩
/-- span.holds. -/
theorem holds_any (s : Sp) (h : SpR s) (z : Int) (hz : inR z) (w : World) : Calls Tryz.prog 19 #[(rsp s).val, Iz z] w fun e w' => e = .returned (.bool (decide (loE s ≤ z) && decide (z ≤ hiE s))) ∧ Below w.heap.size w w' := by
  have hlo : (s.1.getD 0).natAbs < 2 ^ 256 := (rsp_may h).2.1
  have hhi : (s.2.getD 0).natAbs < 2 ^ 256 := (rsp_may h).2.2
  have hz' := inR_abs.1 hz
  refine (holds_core _ _ _ _ _ _ _ _ _ _ _ _ _ _ _ _ _ (cmpv (s.1.getD 0) z) (cmpv z (s.2.getD 0)) _ _ rfl rfl (fun W => cmp_z _ _ hlo hz' W) (fun W => cmp_z _ _ hz' hhi W) w).mono ?_
  rintro e w' ⟨rfl, hb⟩
  refine ⟨ret_bool9 ?_, hb⟩
  rw [cmpv_le9, cmpv_le9]
  unfold inR at hz
  obtain ⟨o1, o2⟩ := s
  unfold loE hiE rsp
  congr 1
  · cases o1 with
    | none => simp only [Option.isSome_none, Option.getD_none]; rw [decide_eq_true hz.1]; rfl
    | some a => rfl
  · cases o2 with
    | none => simp only [Option.isSome_none, Option.getD_none]; rw [decide_eq_true hz.2]; rfl
    | some b => rfl

/-- The function that Has hands on. -/
theorem hasfn (s : Sp) (h : SpR s) (z : Int) (hz : inR z) (p : Nat) (w : World) (hc : Row5 w p (.bool (decide (z < 0))) (.int .u64 (lb 0 z.natAbs)) (.int .u64 (lb 1 z.natAbs)) (.int .u64 (lb 2 z.natAbs)) (.int .u64 (lb 3 z.natAbs))) :
    Calls Tryz.prog 28 #[(rsp s).val, .pointer (some ⟨p, 0, none⟩)] w fun e w' => e = .returned (.bool (decide (loE s ≤ z) && decide (z ≤ hiE s))) ∧ Below w.heap.size w w' := by
  have K := Lib.hid (fun W => holds_any s h z hz W)
  obtain ⟨r0, r1, r2, r3, r4, r5, hr⟩ : ∃ r0 r1 r2 r3 r4 r5, rsp s = ⟨r0, r1, r2, r3, r4, r5⟩ := ⟨_, _, _, _, _, _, rfl⟩
  rw [hr] at K ⊢
  generalize hq : (decide (loE s ≤ z) && decide (z ≤ hiE s)) = q at K ⊢
  clear h hz hq hr
  have X := Row5.alloc hc (.cells #[.bool r0, .bool r1, .bool r2, .int .u64 (lb 0 r3), .int .u64 (lb 1 r3), .int .u64 (lb 2 r3), .int .u64 (lb 3 r3), .bool r4, .int .u64 (lb 0 r5), .int .u64 (lb 1 r5), .int .u64 (lb 2 r5), .int .u64 (lb 3 r5)] 37)
  obtain ⟨p0, p1, p2, p3, p4⟩ := X.parts
  simp only [RS.val] at K ⊢
  unfold Iz I5 at K
  go_enter Tryz.func28, Tryz.ntmps28
  go_wp2_with (go_at_call 19; ((with_reducible refine (K.out _).mono ?_); rintro e w1 ⟨rfl, hb1⟩))
  go_ret
  exact ⟨rfl, btr (bal (Below.refl _ _) _) hb1⟩
end Go.Proofs.YtjlgiejggcbgbaaGreatDoor
