/-
  SpK SpL, one behind the other: a claim holds at most 60 files.
-/
import Derived.Test.YtjlgiejggcbgbaaGreatDoorSpI
import Derived.Test.YtjlgiejggcbgbaaGreatDoorSpJ
import Derived.Test.YtjlgiejggcbgbaaGreatDoorWholeH
section
namespace Go.Proofs.YtjlgiejggcbgbaaGreatDoor
open Go.RowKit Go.Shelf
open Go.Sort (grow)
attribute [local go_sem ↓] eql_nat neq_nat eql_int5 neq_int5

/-- A span's ends, read back. -/
def unrs (r : RS) : Int × Int := (if r.hl then zof r.gl r.xl else -topM, if r.hh then zof r.gh r.xh else topM)
theorem zof_z (z : Int) : zof (decide (z < 0)) z.natAbs = z := by
  unfold zof
  by_cases h : z < 0
  · rw [decide_eq_true h, if_pos rfl]; omega
  · rw [decide_eq_false h, if_neg (by simp)]; omega
theorem unrs_of (p : Int × Int) : unrs (rsp (ofSp p)) = p := by
  obtain ⟨a, b⟩ := p
  unfold unrs rsp ofSp
  by_cases h1 : a = -topM <;> by_cases h2 : b = topM <;> simp [h1, h2, zof_z]
theorem rows_inj {P Q : List (Int × Int)} (h : (P.map fun p => rsp (ofSp p)) = Q.map fun p => rsp (ofSp p)) : P = Q := by
  have := congrArg (List.map unrs) h
  rw [List.map_map, List.map_map] at this
  have e : (unrs ∘ fun p => rsp (ofSp p)) = id := by funext p; exact unrs_of p
  rwa [e, List.map_id, List.map_id] at this
theorem row_bounds {P : List (Int × Int)} {f : Int → Bool} (h : IsN P f) : ∀ r ∈ P.map (fun p => rsp (ofSp p)), r.xl < 2 ^ 256 ∧ r.xh < 2 ^ 256 := by
  have := rsp_bounds h.rng
  rw [List.map_map] at this
  exact this
/-- Are the numbers in the one those in the other? -/
def SameQ (A B : List Sp) (q : Bool) : Prop := q = true ↔ ∀ x, -topM ≤ x → x ≤ topM → memS A x = memS B x
theorem eqL_same {P Q : List (Int × Int)} {A B : List Sp} (hP : IsN P fun x => memS A x) (hQ : IsN Q fun x => memS B x) : SameQ A B (eqL (P.map fun p => rsp (ofSp p)) (Q.map fun p => rsp (ofSp p))) := by
  unfold SameQ
  rw [eqL_iff (row_bounds hP) (row_bounds hQ)]
  constructor
  · intro h x h1 h2
    have := rows_inj h
    subst this
    have e1 : memP P x = memS A x := hP.2 x h1 h2
    have e2 : memP P x = memS B x := hQ.2 x h1 h2
    exact e1.symm.trans e2
  · intro h
    rw [IsN.uniq' hP hQ h]
set_option maxRecDepth 100000 in
/-- span.Same. -/
theorem same_in {w : World} {a b : Value} {A B : List Sp} (hA : In9 w a A) (hB : In9 w b B) : Calls Tryz.prog 13 #[a, b] w fun e w' => ∃ q, e = .returned (.bool q) ∧ SameQ A B q ∧ Below w.heap.size w w' := by
  have HA := Lib.hid hA; have HB := Lib.hid hB
  clear hA hB
  go_enter Tryz.func13, Tryz.ntmps13
  go_wp2_with fail
  ((with_reducible refine (may_in HA.out).mono ?_); rintro e w1 ⟨rfl, hb1⟩)
  go_wp2_with fail
  ((with_reducible refine (may_in (HB.out.keep hb1)).mono ?_); rintro e w2 ⟨rfl, hb⟩)
  have hb2 := btr hb1 hb
  clear hb
  go_wp2_with fail
  ((with_reducible refine (norm_in (HA.out.keep hb2)).mono ?_); rintro e w3 ⟨v3, rfl, P, hP, hN3, hl3, hb⟩)
  have hb3 := btr hb2 hb
  clear hb
  go_wp2_with fail
  ((with_reducible refine (norm_in (HB.out.keep hb3)).mono ?_); rintro e w4 ⟨v4, rfl, Q, hQ, hN4, hl4, hb⟩)
  have hb4 := btr hb3 hb
  obtain ⟨la, lca, ba, rfl, h1, _⟩ := Bs.form (Bs.keep hP hb)
  obtain ⟨lb, lcb, bb, rfl, h2, _⟩ := Bs.form hQ
  have hs := sequal la lb lca lcb _ _ ba 0 bb 0 w4 h1 h2
  rw [List.length_map, List.length_map] at hs
  have HS := Lib.hid hs
  have HQ := Lib.hid (eqL_same hN3 hN4)
  clear hb h1 h2 hP hQ hN3 hN4 hl3 hl4 hs
  go_wp2_with (go_at_call 35; ((with_reducible refine HS.out.mono ?_); rintro e w5 ⟨rfl, hb5⟩))
  go_ret
  exact ⟨_, rfl, HQ.out, btr hb4 hb5⟩

/-- The number of a span that is nearest to none. -/
def nearS (s : Sp) : Int := if 0 < s.1.getD 0 then s.1.getD 0 else if s.2.getD 0 < 0 then s.2.getD 0 else 0
set_option maxRecDepth 100000 in
theorem nearest_core (hl hh gl : Bool) (a0 a1 a2 a3 : Int) (gh : Bool) (b0 b1 b2 b3 : Int) (c d : Int) (r0 : Bool) (r1 r2 r3 r4 : Int) (w : World)
    (k1 : ∀ W, Calls Tryz.prog 43 #[.agg #[.bool gl, .int .u64 a0, .int .u64 a1, .int .u64 a2, .int .u64 a3], .agg #[.bool false, .int .u64 0, .int .u64 0, .int .u64 0, .int .u64 0]] W fun e w' => e = .returned (.int .i64 c) ∧ Below W.heap.size W w')
    (k2 : ∀ W, Calls Tryz.prog 43 #[.agg #[.bool gh, .int .u64 b0, .int .u64 b1, .int .u64 b2, .int .u64 b3], .agg #[.bool false, .int .u64 0, .int .u64 0, .int .u64 0, .int .u64 0]] W fun e w' => e = .returned (.int .i64 d) ∧ Below W.heap.size W w')
    (hc : (0 < c ∧ (r0, r1, r2, r3, r4) = (gl, a0, a1, a2, a3)) ∨ (¬ 0 < c ∧ d < 0 ∧ (r0, r1, r2, r3, r4) = (gh, b0, b1, b2, b3)) ∨ (¬ 0 < c ∧ ¬ d < 0 ∧ (r0, r1, r2, r3, r4) = (false, 0, 0, 0, 0))) :
    Calls Tryz.prog 18 #[V12 hl hh gl a0 a1 a2 a3 gh b0 b1 b2 b3] w fun e w' => e = .returned (.agg #[.bool r0, .int .u64 r1, .int .u64 r2, .int .u64 r3, .int .u64 r4]) ∧ Below w.heap.size w w' := by
  have K1 := Lib.hid k1; have K2 := Lib.hid k2; clear k1 k2
  simp only [Prod.mk.injEq] at hc
  go_enter Tryz.func18, Tryz.ntmps18
  go_wp2_with fail
  ((with_reducible refine (K1.out _).mono ?_); rintro e w1 ⟨rfl, hb⟩)
  have X1 := Row12.keep hb (((Row12.new w (.bool hl) (.bool hh) (.bool gl) (.int .u64 a0) (.int .u64 a1) (.int .u64 a2) (.int .u64 a3) (.bool gh) (.int .u64 b0) (.int .u64 b1) (.int .u64 b2) (.int .u64 b3)).alloc (.cells #[.bool false, .int .u64 0, .int .u64 0, .int .u64 0, .int .u64 0] 29)).alloc (.cells #[.bool false, .int .u64 0, .int .u64 0, .int .u64 0, .int .u64 0] 29))
  have Y1 := Row5.keep hb (Row5.alloc (Row5.new' (w.alloc (.cells #[.bool hl, .bool hh, .bool gl, .int .u64 a0, .int .u64 a1, .int .u64 a2, .int .u64 a3, .bool gh, .int .u64 b0, .int .u64 b1, .int .u64 b2, .int .u64 b3] 37)) (b := w.heap.size + 1) (by simp) (.bool false) (.int .u64 0) (.int .u64 0) (.int .u64 0) (.int .u64 0)) (.cells #[.bool false, .int .u64 0, .int .u64 0, .int .u64 0, .int .u64 0] 29))
  have Z1 := Row5.keep hb (Row5.new' ((w.alloc (.cells #[.bool hl, .bool hh, .bool gl, .int .u64 a0, .int .u64 a1, .int .u64 a2, .int .u64 a3, .bool gh, .int .u64 b0, .int .u64 b1, .int .u64 b2, .int .u64 b3] 37)).alloc (.cells #[.bool false, .int .u64 0, .int .u64 0, .int .u64 0, .int .u64 0] 29)) (b := w.heap.size + 1 + 1) (by simp) (.bool false) (.int .u64 0) (.int .u64 0) (.int .u64 0) (.int .u64 0))
  have B1 := Lib.hid (btr (bal (bal (bal (Below.refl w.heap.size w) _) _) _) hb)
  clear hb
  obtain ⟨p0, p1, p2, p3, p4, p5, p6, p7, p8, p9, p10, p11⟩ := X1.parts
  obtain ⟨y0, y1, y2, y3, y4⟩ := Y1.parts
  obtain ⟨f0, f1, f2, f3, f4⟩ := Y1.free
  obtain ⟨z0, z1, z2, z3, z4⟩ := Z1.parts
  have hlt := Y1.lt
  rcases hc with ⟨hc, rfl, rfl, rfl, rfl, rfl⟩ | ⟨hc, hd, rfl, rfl, rfl, rfl, rfl⟩ | ⟨hc, hd, rfl, rfl, rfl, rfl, rfl⟩
  · go_wp2
    exact bodyPost_ret (v := .agg #[.bool r0, .int .u64 r1, .int .u64 r2, .int .u64 r3, .int .u64 r4]) (by simp [results, Tryz.results18, go_sem, y0, y1, y2, y3, y4]) rfl ⟨rfl, bsc5 B1.out (by omega) _ _ _ _ _⟩
  · go_wp2_with fail
    ((with_reducible refine (K2.out _).mono ?_); rintro e w2 ⟨rfl, hb⟩)
    have X2 := Row12.keep hb X1
    have Y2 := Row5.keep hb Y1
    have B2 := Lib.hid (btr B1.out hb)
    clear hb p0 p1 p2 p3 p4 p5 p6 p7 p8 p9 p10 p11 y0 y1 y2 y3 y4 f0 f1 f2 f3 f4 z0 z1 z2 z3 z4
    obtain ⟨p0, p1, p2, p3, p4, p5, p6, p7, p8, p9, p10, p11⟩ := X2.parts
    obtain ⟨y0, y1, y2, y3, y4⟩ := Y2.parts
    obtain ⟨f0, f1, f2, f3, f4⟩ := Y2.free
    go_wp2
    exact bodyPost_ret (v := .agg #[.bool r0, .int .u64 r1, .int .u64 r2, .int .u64 r3, .int .u64 r4]) (by simp [results, Tryz.results18, go_sem, y0, y1, y2, y3, y4]) rfl ⟨rfl, bsc5 B2.out (by omega) _ _ _ _ _⟩
  · go_wp2_with fail
    ((with_reducible refine (K2.out _).mono ?_); rintro e w2 ⟨rfl, hb⟩)
    have Z2 := Row5.keep hb Z1
    have Y2 := Row5.keep hb Y1
    have B2 := Lib.hid (btr B1.out hb)
    clear hb p0 p1 p2 p3 p4 p5 p6 p7 p8 p9 p10 p11 y0 y1 y2 y3 y4 f0 f1 f2 f3 f4 z0 z1 z2 z3 z4
    obtain ⟨z0, z1, z2, z3, z4⟩ := Z2.parts
    obtain ⟨y0, y1, y2, y3, y4⟩ := Y2.parts
    obtain ⟨f0, f1, f2, f3, f4⟩ := Y2.free
    go_wp2
    exact bodyPost_ret (v := .agg #[.bool false, .int .u64 0, .int .u64 0, .int .u64 0, .int .u64 0]) (by simp [results, Tryz.results18, go_sem, y0, y1, y2, y3, y4]) rfl ⟨rfl, bsc5 B2.out (by omega) _ _ _ _ _⟩
theorem Iz_zero9 : Iz 0 = .agg #[.bool false, .int .u64 0, .int .u64 0, .int .u64 0, .int .u64 0] := by
  unfold Iz I5
  simp only [Int.natAbs_zero, lb_zero]
  rfl
/-- span.nearest. -/
theorem nearest_any (s : Sp) (h : SpR s) (w : World) : Calls Tryz.prog 18 #[(rsp s).val] w fun e w' => e = .returned (Iz (nearS s)) ∧ Below w.heap.size w w' := by
  have hlo : (s.1.getD 0).natAbs < 2 ^ 256 := (rsp_may h).2.1
  have hhi : (s.2.getD 0).natAbs < 2 ^ 256 := (rsp_may h).2.2
  have k1 := fun W => cmp_z (s.1.getD 0) 0 hlo (by decide) W
  have k2 := fun W => cmp_z (s.2.getD 0) 0 hhi (by decide) W
  rw [Iz_zero9] at k1 k2
  have e1 := cmpv_pos9 (s.1.getD 0) 0
  have e2 := cmpv_neg9 (s.2.getD 0) 0
  by_cases h1 : 0 < s.1.getD 0
  · have : nearS s = s.1.getD 0 := by unfold nearS; rw [if_pos h1]
    rw [this]
    exact nearest_core _ _ _ _ _ _ _ _ _ _ _ _ _ _ _ _ _ _ _ w k1 k2 (.inl ⟨by rw [decide_eq_true h1] at e1; exact of_decide_eq_true e1, rfl⟩)
  · have c1 : ¬ 0 < cmpv (s.1.getD 0) 0 := by rw [decide_eq_false h1] at e1; exact of_decide_eq_false e1
    by_cases h2 : s.2.getD 0 < 0
    · have : nearS s = s.2.getD 0 := by unfold nearS; rw [if_neg h1, if_pos h2]
      rw [this]
      exact nearest_core _ _ _ _ _ _ _ _ _ _ _ _ _ _ _ _ _ _ _ w k1 k2 (.inr (.inl ⟨c1, by rw [decide_eq_true h2] at e2; exact of_decide_eq_true e2, rfl⟩))
    · have : nearS s = 0 := by unfold nearS; rw [if_neg h1, if_neg h2]
      rw [this, Iz_zero9]
      exact nearest_core _ _ _ _ _ _ _ _ _ _ _ _ _ _ _ _ _ _ _ w k1 k2 (.inr (.inr ⟨c1, by rw [decide_eq_false h2] at e2; exact of_decide_eq_false e2, rfl⟩))

/-- Is a number nearer than another one? -/
def isN (a b : Int) : Bool := decide (a.natAbs < b.natAbs) || (decide (a.natAbs = b.natAbs) && decide (0 ≤ a))
set_option maxRecDepth 100000 in
theorem isnearer_core (g : Bool) (x0 x1 x2 x3 : Int) (h : Bool) (y0 y1 y2 y3 : Int) (c : Int) (w : World)
    (k1 : ∀ W, Calls Tryz.prog 43 #[.agg #[.bool false, .int .u64 x0, .int .u64 x1, .int .u64 x2, .int .u64 x3], .agg #[.bool false, .int .u64 y0, .int .u64 y1, .int .u64 y2, .int .u64 y3]] W fun e w' => e = .returned (.int .i64 c) ∧ Below W.heap.size W w') :
    Calls Tryz.prog 20 #[.agg #[.bool g, .int .u64 x0, .int .u64 x1, .int .u64 x2, .int .u64 x3], .agg #[.bool h, .int .u64 y0, .int .u64 y1, .int .u64 y2, .int .u64 y3]] w fun e w' => e = .returned (.bool (decide (c < 0) || (decide (c = 0) && !g))) ∧ Below w.heap.size w w' := by
  have K1 := Lib.hid k1; clear k1
  go_enter Tryz.func20, Tryz.ntmps20
  go_wp2_with fail
  ((with_reducible refine (K1.out _).mono ?_); rintro e w1 ⟨rfl, hb⟩)
  have X1 := Row5.keep hb (Row5.alloc (Row5.new w (.bool g) (.int .u64 x0) (.int .u64 x1) (.int .u64 x2) (.int .u64 x3)) (.cells #[.bool h, .int .u64 y0, .int .u64 y1, .int .u64 y2, .int .u64 y3] 29))
  have B1 := Lib.hid (btr (bal (bal (Below.refl w.heap.size w) _) _) hb)
  clear hb
  obtain ⟨p0, p1, p2, p3, p4⟩ := X1.parts
  by_cases hc : c < 0
  · have HD := Lib.hid (decide_eq_true hc)
    go_wp2
    go_ret
    exact ⟨ret_bool9 (by rw [HD.out]; rfl), B1.out⟩
  · have HD := Lib.hid (decide_eq_false hc)
    by_cases h0 : c = 0
    · subst h0
      cases g
      all_goals
        go_wp2
        go_ret
        exact ⟨rfl, B1.out⟩
    · have HZ := Lib.hid (decide_eq_false h0)
      have hz : (c == 0) = false := by simpa using h0
      clear h0
      go_wp2
      go_ret
      exact ⟨ret_bool9 (by rw [HD.out, HZ.out]; rfl), B1.out⟩
/-- span.isNearer. -/
theorem isnearer_any (a b : Int) (ha : a.natAbs < 2 ^ 256) (hb : b.natAbs < 2 ^ 256) (w : World) : Calls Tryz.prog 20 #[Iz a, Iz b] w fun e w' => e = .returned (.bool (isN a b)) ∧ Below w.heap.size w w' := by
  have k := fun W => cmp_z (a.natAbs : Int) (b.natAbs : Int) (by rw [Int.natAbs_natCast]; exact ha) (by rw [Int.natAbs_natCast]; exact hb) W
  rw [Iz_nat, Iz_nat] at k
  refine (isnearer_core _ _ _ _ _ _ _ _ _ _ _ w k).mono ?_
  rintro e w' ⟨rfl, h⟩
  refine ⟨ret_bool9 ?_, h⟩
  unfold isN cmpv
  by_cases h1 : a.natAbs < b.natAbs
  · rw [if_pos (by omega), decide_eq_true h1]; rfl
  · rw [if_neg (by omega), decide_eq_false h1]
    by_cases h2 : a.natAbs = b.natAbs
    · rw [if_pos (by omega), decide_eq_true h2]
      by_cases h3 : a < 0
      · rw [show decide (0 ≤ a) = false from decide_eq_false (by omega), show decide (a < 0) = true from decide_eq_true h3]; rfl
      · rw [show decide (0 ≤ a) = true from decide_eq_true (by omega), show decide (a < 0) = false from decide_eq_false h3]; rfl
    · rw [if_neg (by omega), decide_eq_false h2]; rfl

theorem info_fn : (Tryz.prog.info? 45).map (fun i => (i.zero, i.size, i.bytes)) = some (some .nilFunc, 1, 8) := by kernel_rfl
theorem und_fns : Tryz.prog.underlying 43 = some (.slice 45) := by kernel_rfl
/-- The steps of a kind. -/
def stepsL (ex ro : Bool) : List Nat := (if ex then [39, 40] else []) ++ (if ro then [41, 42] else [])
def fnV (g : Nat) : Value := .func (.func g) #[] #[]
theorem fn_cells (W : World) (a b : Value) (H : Nat) (h : W.heap.size = H) : ∀ j u, [a, b][j]? = some u → (W.alloc (.cells #[a, b] 45)).cell? ((⟨H, 0, none⟩ : Addr).add j) = some u := news9 W #[a, b] _ H h
set_option maxRecDepth 100000 in
set_option maxHeartbeats 2000000 in
/-- span.steps. -/
theorem steps_any (ex ro : Bool) (w : World) : Calls Tryz.prog 17 #[.bool ex, .bool ro] w fun e w' => ∃ v, e = .returned v ∧ w'.ownsRow w.heap.size 45 1 v (stepsL ex ro).length ((stepsL ex ro).map fnV) ∧ Below w.heap.size w w' := by
  obtain ⟨i0, hi0, hz0, hz1, hz2⟩ := info9 info_fn
  go_enter Tryz.func17, Tryz.ntmps17
  cases ex
  · cases ro
    · go_wp2
      go_ret
      exact ⟨_, rfl, World.ownsRow_nil _ _ _ _, Below.refl _ _⟩
    · go_wp2_with (at_builtin; refine wpList_append_lies _ rfl (.tmp 11) (.tmp 12) 43 rfl w.heap.size 45 i0 .nilFunc 1 8 und_fns hi0 hz0 hz1 hz2 rfl (by decide) (.slice none 0 0) 0 [] rfl (World.ownsRow_nil _ _ _ _) ⟨w.heap.size, 0, none⟩ 2 2 [fnV 41, fnV 42] rfl rfl (fn_cells _ _ _ _ (by simp)) (by intro u hu; simp only [List.mem_cons, List.not_mem_nil, or_false] at hu; rcases hu with rfl | rfl <;> rfl) (by decide) (by unfold maxLen; omega) (by omega) (by simp <;> omega) _ rfl ?_; intro g4 cap4 w4 hown hgrow hat hlt4; have HO4 := Lib.hid hown; have HB4 := Lib.hid (Below.grown (bal (Below.refl w.heap.size w) _) hgrow (by simp) (by intro q hq; cases hq)); clear hown hgrow hat hlt4)
      go_ret
      exact ⟨_, rfl, HO4.out, HB4.out⟩
  · cases ro
    · go_wp2_with (at_builtin; refine wpList_append_lies _ rfl (.tmp 7) (.tmp 8) 43 rfl w.heap.size 45 i0 .nilFunc 1 8 und_fns hi0 hz0 hz1 hz2 rfl (by decide) (.slice none 0 0) 0 [] rfl (World.ownsRow_nil _ _ _ _) ⟨w.heap.size, 0, none⟩ 2 2 [fnV 39, fnV 40] rfl rfl (fn_cells _ _ _ _ (by simp)) (by intro u hu; simp only [List.mem_cons, List.not_mem_nil, or_false] at hu; rcases hu with rfl | rfl <;> rfl) (by decide) (by unfold maxLen; omega) (by omega) (by simp <;> omega) _ rfl ?_; intro g4 cap4 w4 hown hgrow hat hlt4; have HO4 := Lib.hid hown; have HB4 := Lib.hid (Below.grown (bal (Below.refl w.heap.size w) _) hgrow (by simp) (by intro q hq; cases hq)); have hz4 := HB4.out.size; clear hown hgrow hat hlt4)
      go_ret
      exact ⟨_, rfl, HO4.out, HB4.out⟩
    · go_wp2_with (first | (at_builtin; refine wpList_append_lies _ rfl (.tmp 7) (.tmp 8) 43 rfl w.heap.size 45 i0 .nilFunc 1 8 und_fns hi0 hz0 hz1 hz2 rfl (by decide) (.slice none 0 0) 0 [] rfl (World.ownsRow_nil _ _ _ _) ⟨w.heap.size, 0, none⟩ 2 2 [fnV 39, fnV 40] rfl rfl (fn_cells _ _ _ _ (by simp)) (by intro u hu; simp only [List.mem_cons, List.not_mem_nil, or_false] at hu; rcases hu with rfl | rfl <;> rfl) (by decide) (by unfold maxLen; omega) (by omega) (by simp <;> omega) _ rfl ?_; intro g4 cap4 w4 hown hgrow hat hlt4; have HO4 := Lib.hid hown; have HB4 := Lib.hid (Below.grown (bal (Below.refl w.heap.size w) _) hgrow (by simp) (by intro q hq; cases hq)); have hz4 := HB4.out.size; clear hown hgrow hat hlt4) | (at_builtin; refine wpList_append_lies _ rfl (.tmp 11) (.tmp 12) 43 rfl w.heap.size 45 i0 .nilFunc 1 8 und_fns hi0 hz0 hz1 hz2 rfl (by decide) (.slice (some ⟨g4, 0, none⟩) 2 cap4) 2 _ rfl (World.ownsRow.alloc HO4.out _) ⟨w4.heap.size, 0, none⟩ 2 2 [fnV 41, fnV 42] rfl rfl (fn_cells _ _ _ _ (by simp)) (by intro u hu; simp only [List.mem_cons, List.not_mem_nil, or_false] at hu; rcases hu with rfl | rfl <;> rfl) (by decide) (by unfold maxLen; omega) (by omega) (by simp <;> omega) _ rfl ?_; intro g6 cap6 w6 hown hgrow hat hlt6; have HO6 := Lib.hid hown; have HB6 := Lib.hid (Below.grown (bal HB4.out _) hgrow (bal HB4.out _).size (by intro q hq; cases hq; exact (own_base9 HO4.out g4 rfl).1)); clear hown hgrow hat hlt6))
      go_ret
      exact ⟨_, rfl, HO6.out, HB6.out⟩
end Go.Proofs.YtjlgiejggcbgbaaGreatDoor
end
section
namespace Go.Proofs.YtjlgiejggcbgbaaGreatDoor
open Go.RowKit Go.Shelf
open Go.Sort (grow)
attribute [local go_sem ↓] eql_nat neq_nat eql_int5 neq_int5

theorem edown_z9 (z : Int) (hz : z.natAbs < 2 ^ 256) (w : World) (hT : Tb w) :
    Calls Tryz.prog 40 #[Iz z] w fun e w' => e = .returned (Znum (-(eup (-z)))) ∧ Below w.heap.size w w' := by
  by_cases h : (eup (-z)).natAbs < 2 ^ 256
  · refine (edown_of w z (eup (-z)) true hz h (fun W hW => ?_)).mono ?_
    · have := exup_z (-z) (by omega) W (tb_on hT hW)
      rw [Znum_of h] at this
      exact this
    rintro e w' ⟨rfl, hb⟩
    exact ⟨by rw [Znum_of (by omega)], hb⟩
  · refine (edown_of w z 0 false hz (by decide) (fun W hW => ?_)).mono ?_
    · have := exup_z (-z) (by omega) W (tb_on hT hW)
      rw [Znum_Z5 h, ← Iz_zero] at this
      exact this
    rintro e w' ⟨rfl, hb⟩
    refine ⟨?_, hb⟩
    rw [Znum_Z5 (by omega), ← Iz_zero]
    rfl
theorem rdown_z9 (z : Int) (hz : z.natAbs < 2 ^ 256) (w : World) (hT : Tb w) :
    Calls Tryz.prog 42 #[Iz z] w fun e w' => e = .returned (Znum (-(rup (-z)))) ∧ Below w.heap.size w w' := by
  by_cases h : (rup (-z)).natAbs < 2 ^ 256
  · refine (rdown_of w z (rup (-z)) true hz h (fun W hW => ?_)).mono ?_
    · have := roup_z (-z) (by omega) W (tb_on hT hW)
      rw [Znum_of h] at this
      exact this
    rintro e w' ⟨rfl, hb⟩
    exact ⟨by rw [Znum_of (by omega)], hb⟩
  · refine (rdown_of w z 0 false hz (by decide) (fun W hW => ?_)).mono ?_
    · have := roup_z (-z) (by omega) W (tb_on hT hW)
      rw [Znum_Z5 h, ← Iz_zero] at this
      exact this
    rintro e w' ⟨rfl, hb⟩
    refine ⟨?_, hb⟩
    rw [Znum_Z5 (by omega), ← Iz_zero]
    rfl
/-- A step, by its number. -/
def stp (j : Nat) (z : Int) : Int := if j = 0 then eup z else if j = 1 then -(eup (-z)) else if j = 2 then rup z else -(rup (-z))
def stepFn (j : Nat) : Nat := if j = 0 then 39 else if j = 1 then 40 else if j = 2 then 41 else 42
def stepsJ (ex ro : Bool) : List Nat := (if ex then [0, 1] else []) ++ (if ro then [2, 3] else [])
theorem steps_map (ex ro : Bool) : stepsL ex ro = (stepsJ ex ro).map stepFn := by cases ex <;> cases ro <;> rfl
theorem steps_mem {ex ro : Bool} : ∀ j ∈ stepsJ ex ro, j < 4 := by cases ex <;> cases ro <;> simp [stepsJ]
theorem step_enters {j : Nat} (h : j < 4) : ∀ args w, (callFunc (stepFn j) args).run Tryz.prog w = .ok (.enter (stepFn j) args) w := by
  match j, h with
  | 0, _ => exact enters_of Tryz.func39 (by kernel_rfl) rfl
  | 1, _ => exact enters_of Tryz.func40 (by kernel_rfl) rfl
  | 2, _ => exact enters_of Tryz.func41 (by kernel_rfl) rfl
  | 3, _ => exact enters_of Tryz.func42 (by kernel_rfl) rfl
theorem step_any {j : Nat} (h : j < 4) (z : Int) (hz : z.natAbs < 2 ^ 256) (w : World) (hT : Tb w) : Calls Tryz.prog (stepFn j) #[Iz z] w fun e w' => e = .returned (Znum (stp j z)) ∧ Below w.heap.size w w' := by
  match j, h with
  | 0, _ => exact exup_z z hz w hT
  | 1, _ => exact edown_z9 z hz w hT
  | 2, _ => exact roup_z z hz w hT
  | 3, _ => exact rdown_z9 z hz w hT
/-- Is a step's number one of a span, and nearer than the best yet? -/
def takes (s : Sp) (best : Option Int) (a : Int) : Bool := decide (a.natAbs < 2 ^ 256) && ((decide (loE s ≤ a) && decide (a ≤ hiE s)) && match best with | none => true | some b => isN a b)
def tryS (s : Sp) (best : Option Int) (j : Nat) : Option Int := if takes s best (stp j (nearS s)) = true then some (stp j (nearS s)) else best
/-- The number of a set that is least in size. -/
def pickT (A : List Sp) (ex ro : Bool) : Option Int := A.foldl (fun b s => (stepsJ ex ro).foldl (tryS s) b) none
theorem try_no {s : Sp} {best : Option Int} {j : Nat} {a : Int} (e : stp j (nearS s) = a) (h : takes s best a = false) : tryS s best j = best := by subst e; unfold tryS; rw [if_neg (by rw [h]; simp)]
theorem try_yes {s : Sp} {best : Option Int} {j : Nat} {a : Int} (e : stp j (nearS s) = a) (h : takes s best a = true) : tryS s best j = some a := by subst e; unfold tryS; rw [if_pos h]
theorem fold_at {α β : Type} {f : β → α → β} {l : List α} {k : Nat} {x : α} (h : l[k]? = some x) (b : β) : (l.drop k).foldl f b = (l.drop (k + 1)).foldl f (f b x) := by
  obtain ⟨hk, rfl⟩ := List.getElem?_eq_some_iff.1 h
  rw [List.drop_eq_getElem_cons hk, List.foldl_cons]
theorem near_abs {s : Sp} (h : SpR s) : (nearS s).natAbs < 2 ^ 256 := by
  have h1 : (s.1.getD 0).natAbs < 2 ^ 256 := (rsp_may h).2.1
  have h2 : (s.2.getD 0).natAbs < 2 ^ 256 := (rsp_may h).2.2
  unfold nearS
  split
  · exact h1
  · split
    · exact h2
    · decide
theorem cell_set9 {W : World} {a b i j : Nat} {v : Value} (h : W.cell? ⟨a, j, none⟩ = some v) (hne : a ≠ b) (u : Value) : (W.setCell ⟨b, i, none⟩ u).cell? ⟨a, j, none⟩ = some v :=
  (World.cell?_of_block (Below.heap_setCell W ⟨b, i, none⟩ u a hne)).trans h
/-- What the loops keep: the best one yet, in its block. -/
structure PkI (w : World) (D R : Nat) (wr : World) (b : Option Int) : Prop where
  best : Row5 wr D (.bool (decide (b.getD 0 < 0))) (.int .u64 (lb 0 (b.getD 0).natAbs)) (.int .u64 (lb 1 (b.getD 0).natAbs)) (.int .u64 (lb 2 (b.getD 0).natAbs)) (.int .u64 (lb 3 (b.getD 0).natAbs))
  res : Row5 wr R (.bool false) (.int .u64 0) (.int .u64 0) (.int .u64 0) (.int .u64 0)
  bw : Below w.heap.size w wr
  rng : (b.getD 0).natAbs < 2 ^ 256
theorem PkI.keep {w : World} {D R : Nat} {wr w' : World} {b : Option Int} (h : PkI w D R wr b) (hb : Below wr.heap.size wr w') : PkI w D R w' b := ⟨h.best.keep hb, h.res.keep hb, btr h.bw hb, h.rng⟩
theorem PkI.put {w : World} {D R : Nat} {wr : World} {b : Option Int} (h : PkI w D R wr b) (hne : R ≠ D) (hD : w.heap.size ≤ D) {a : Int} (ha : a.natAbs < 2 ^ 256) :
    PkI w D R (((((wr.setCell ⟨D, 0, none⟩ (.bool (decide (a < 0)))).setCell ⟨D, 1, none⟩ (.int .u64 (lb 0 a.natAbs))).setCell ⟨D, 2, none⟩ (.int .u64 (lb 1 a.natAbs))).setCell ⟨D, 3, none⟩ (.int .u64 (lb 2 a.natAbs))).setCell ⟨D, 4, none⟩ (.int .u64 (lb 3 a.natAbs))) (some a) :=
  ⟨Row5.set5 h.best _ _ _ _ _, ((((h.res.set hne _).set hne _).set hne _).set hne _).set hne _, bsc5 h.bw hD _ _ _ _ _, ha⟩
theorem own_fn {w : World} {base : Nat} {v : Value} {l : List Nat} (h : w.ownsRow base 45 1 v l.length (l.map fnV)) : ∃ la lc bb, v = .slice la l.length lc ∧ (0 < l.length → la = some ⟨bb, 0, none⟩ ∧ base ≤ bb) ∧ ∀ i g, l[i]? = some g → w.cell? ⟨bb, i, none⟩ = some (fnV g) := by
  have h' := h
  rcases h.2 with ⟨h2, h3⟩ | ⟨g, cap, cur, h3, h4, h5, h6, h7, _⟩
  · exact ⟨none, 0, 0, by rw [h2, h3], fun h => by omega, fun i g hi => by have := (List.getElem?_eq_some_iff.1 hi).1; omega⟩
  · refine ⟨some ⟨g, 0, none⟩, cap, g, h3, fun _ => ⟨rfl, h4⟩, fun i f hi => ?_⟩
    have := World.ownsRow.cells h' (g := g) (by rw [h3]; rfl) i (fnV f) (by rw [List.getElem?_map, hi]; rfl)
    rwa [addr_add9, Nat.zero_add] at this

set_option maxRecDepth 100000 in
set_option maxHeartbeats 16000000 in
theorem pick_core (ex ro : Bool) (la : Option Addr) (lca : Nat) (A : List Sp) (ba oa : Nat) (w : World) (hT : Tb w) (hA : ∀ s ∈ A, SpR s) (hlA : Ls w la (A.map rsp) ba oa) (hn : A.length ≤ 1000)
    (m1 : Calls Tryz.prog 16 #[.slice la A.length lca] (w.alloc (.cells #[.bool false, .int .u64 0, .int .u64 0, .int .u64 0, .int .u64 0] 29)) fun e w' => e = .returned (.bool true) ∧ Below (w.alloc (.cells #[.bool false, .int .u64 0, .int .u64 0, .int .u64 0, .int .u64 0] 29)).heap.size (w.alloc (.cells #[.bool false, .int .u64 0, .int .u64 0, .int .u64 0, .int .u64 0] 29)) w') :
    Calls Tryz.prog 6 #[.slice la A.length lca, .bool ex, .bool ro] w fun e w' => e = .returned (.tuple #[Iz ((pickT A ex ro).getD 0), .bool (pickT A ex ro).isSome]) ∧ Below w.heap.size w w' := by
  have M1 := Lib.hid m1; have LA := Lib.hid hlA; have HA := Lib.hid hA; have HT := Lib.hid hT
  clear m1 hlA hA hT
  go_enter Tryz.func6, Tryz.ntmps6
  go_wp2_with fail
  ((with_reducible refine M1.out.mono ?_); rintro e w1 ⟨rfl, hb⟩)
  have R1 := Row5.keep hb (Row5.new w (.bool false) (.int .u64 0) (.int .u64 0) (.int .u64 0) (.int .u64 0))
  have hb1 := btr (bal (Below.refl w.heap.size w) _) hb
  have hsz1 := hb1.size
  have hlt1 := R1.lt
  have B1 := Lib.hid hb1
  clear hb hb1
  obtain ⟨n, hnn⟩ : ∃ n, n = A.length := ⟨_, rfl⟩
  rw [← hnn] at hn ⊢
  have HN := Lib.hid hnn
  clear hnn
  obtain ⟨PT, hPT⟩ : ∃ P, P = pickT A ex ro := ⟨_, rfl⟩
  have HPT := Lib.hid hPT
  clear hPT
  go_wp2
  go_loopw [9, 22] (fun fd i wr => ∃ (k : Nat) (b : Option Int) (p : Bool), k ≤ n ∧ i = .int .i64 k ∧ fd = .bool p ∧ Hid (p = b.isSome ∧ PkI w w1.heap.size w.heap.size wr b ∧ (A.drop k).foldl (fun b s => (stepsJ ex ro).foldl (tryS s) b) b = PT)) (fun _ i _ => n - (intOf i).toNat)
  case atStart =>
    refine ⟨0, none, false, Nat.zero_le _, rfl, rfl, Lib.hid ⟨rfl, ⟨?_, Row5.alloc R1 _, bal B1.out _, by decide⟩, by rw [HPT.out]; rfl⟩⟩
    have := Row5.new w1 (.bool false) (.int .u64 0) (.int .u64 0) (.int .u64 0) (.int .u64 0)
    simp only [Option.getD_none, Int.natAbs_zero, lb_zero]
    exact this
  case round =>
    obtain ⟨k, b, p, hk, rfl, rfl, SI⟩ := hrel
    by_cases hlt : k < n
    · obtain ⟨s, hs, hm⟩ : ∃ s, A[k]? = some s ∧ s ∈ A := ⟨A[k]'(by rw [← HN.out]; exact hlt), List.getElem?_eq_getElem _, List.getElem_mem _⟩
      have hSR := HA.out s hm
      have hr := C12.keep SI.out.2.1.bw (LA.out.cells k (rsp s) (by rw [List.getElem?_map, hs]; rfl))
      obtain rfl : la = some ⟨ba, oa, none⟩ := LA.out.la (by rw [List.length_map, ← HN.out]; omega)
      have HNE := Lib.hid (fun W => nearest_any s hSR W)
      have HHO := Lib.hid (fun (a : Int) (ha : a.natAbs < 2 ^ 256) W => holds_any s hSR a (inR_abs.2 ha) W)
      have HNA := Lib.hid (near_abs hSR)
      have HFK := Lib.hid (fold_at (f := fun b s => (stepsJ ex ro).foldl (tryS s) b) hs b)
      obtain ⟨hl, hh, gl, xl, gh, xh, hrs⟩ : ∃ hl hh gl xl gh xh, rsp s = ⟨hl, hh, gl, xl, gh, xh⟩ := ⟨_, _, _, _, _, _, rfl⟩
      rw [hrs] at hr HNE HHO
      simp only [RS.val] at HNE HHO
      obtain ⟨c0, c1, c2, c3, c4, c5, c6, c7, c8, c9, c10, c11⟩ := hr.twelve
      clear hr hs hm hrs hSR
      go_wp2_with fail
      ((with_reducible refine (steps_any ex ro _).mono ?_); rintro e w2 ⟨v2, rfl, hO2, hb⟩)
      have X2 := Row12.keep hb (Row12.new wr (.bool hl) (.bool hh) (.bool gl) (.int .u64 (lb 0 xl)) (.int .u64 (lb 1 xl)) (.int .u64 (lb 2 xl)) (.int .u64 (lb 3 xl)) (.bool gh) (.int .u64 (lb 0 xh)) (.int .u64 (lb 1 xh)) (.int .u64 (lb 2 xh)) (.int .u64 (lb 3 xh)))
      have P2 := Lib.hid (SI.out.2.1.keep (btr (bal (Below.refl _ _) _) hb))
      have hx2 := X2.lt
      have HX2 := Lib.hid X2
      rw [steps_map] at hO2
      obtain ⟨lf, lcf, bf, rfl, hlf, hcf⟩ := own_fn hO2
      obtain ⟨FJ, hFJ⟩ : ∃ l, l = stepsJ ex ro := ⟨_, rfl⟩
      have HMJ : Hid (∀ j ∈ FJ, j < 4) := Lib.hid (by rw [hFJ]; exact steps_mem)
      rw [← hFJ] at hlf hcf HFK ⊢
      rw [List.length_map] at hlf ⊢
      have HCF := Lib.hid hcf; have HLF := Lib.hid hlf
      have hnf : FJ.length ≤ 4 := by rw [hFJ]; cases ex <;> cases ro <;> simp [stepsJ]
      have HFJ := Lib.hid hFJ
      clear hb hO2 hcf hlf X2 hFJ c0 c1 c2 c3 c4 c5 c6 c7 c8 c9 c10 c11
      have hsz2 := P2.out.bw.size
      have hD2 : w1.heap.size < wr.heap.size := SI.out.2.1.best.lt
      have HSI := Lib.hid SI.out.2.2
      have HSP := Lib.hid SI.out.1
      clear SI
      generalize wr = wq at *
      go_wp2
      go_loopw [9, 30] (fun fd j wj => ∃ (m : Nat) (b' : Option Int) (p' : Bool), m ≤ FJ.length ∧ j = .int .i64 m ∧ fd = .bool p' ∧ Hid (p' = b'.isSome ∧ PkI w w1.heap.size w.heap.size wj b' ∧ (FJ.drop m).foldl (tryS s) b' = FJ.foldl (tryS s) b) ∧ Hid (Row12 wj wq.heap.size (.bool hl) (.bool hh) (.bool gl) (.int .u64 (lb 0 xl)) (.int .u64 (lb 1 xl)) (.int .u64 (lb 2 xl)) (.int .u64 (lb 3 xl)) (.bool gh) (.int .u64 (lb 0 xh)) (.int .u64 (lb 1 xh)) (.int .u64 (lb 2 xh)) (.int .u64 (lb 3 xh))) ∧ Hid (∀ i g, (FJ.map stepFn)[i]? = some g → wj.cell? ⟨bf, i, none⟩ = some (fnV g))) (fun _ j _ => FJ.length - (intOf j).toNat)
      case atStart => exact ⟨0, b, p, Nat.zero_le _, rfl, rfl, Lib.hid ⟨HSP.out, P2.out, rfl⟩, HX2, HCF⟩
      case round =>
        obtain ⟨m, b', p', hmm, rfl, rfl, SJ, XJ, FCJ⟩ := hrel
        have hDj := SJ.out.2.1.best.lt
        have hxj := XJ.out.lt
        by_cases hltm : m < FJ.length
        · obtain ⟨j, hj, hjm⟩ : ∃ j, FJ[m]? = some j ∧ j ∈ FJ := ⟨FJ[m], List.getElem?_eq_getElem hltm, List.getElem_mem hltm⟩
          have hj4 := HMJ.out j hjm
          have hfc : wr.cell? ⟨bf, m, none⟩ = some (.func (.func (stepFn j)) #[] #[]) := FCJ.out m (stepFn j) (by rw [List.getElem?_map, hj]; rfl)
          obtain ⟨rfl, hbf⟩ := HLF.out (by omega)
          have hbf2 : wq.heap.size < bf := by have h0 := hbf; simp at h0; omega
          clear hbf
          have hst := fun W hW => step_any hj4 (nearS s) HNA.out W hW
          have eg := step_enters hj4
          have HFM := Lib.hid (fold_at (f := tryS s) hj b')
          obtain ⟨a, ha⟩ : ∃ a, stp j (nearS s) = a := ⟨_, rfl⟩
          have HA0 := Lib.hid ha
          rw [ha] at hst
          obtain ⟨g, hg⟩ : ∃ g, stepFn j = g := ⟨_, rfl⟩
          rw [hg] at hst eg hfc
          obtain ⟨x0, x1, x2, x3, x4, x5, x6, x7, x8, x9, x10, x11⟩ := XJ.out.parts
          clear ha hg hj hjm hj4
          go_wp2_with fail
          ((with_reducible refine (HNE.out _).mono ?_); rintro e w3 ⟨rfl, hb⟩)
          have P3 := Lib.hid (SJ.out.2.1.keep hb); have X3 := Lib.hid (XJ.out.keep hb)
          have F3 : Hid (∀ i g, (FJ.map stepFn)[i]? = some g → w3.cell? ⟨bf, i, none⟩ = some (fnV g)) := Lib.hid (fun i g h => cell_keep9 hb (FCJ.out i g h))
          have HT3 := Lib.hid (tb_on HT.out P3.out.bw)
          clear hb x0 x1 x2 x3 x4 x5 x6 x7 x8 x9 x10 x11 hfc
          by_cases hab : a.natAbs < 2 ^ 256
          · have HST : Hid (∀ W, Tb W → Calls Tryz.prog g #[Iz (nearS s)] W fun e w' => e = .returned (.tuple #[.agg #[.bool (decide (a < 0)), .int .u64 (lb 0 (a).natAbs), .int .u64 (lb 1 (a).natAbs), .int .u64 (lb 2 (a).natAbs), .int .u64 (lb 3 (a).natAbs)], .bool true]) ∧ Below W.heap.size W w') := Lib.hid (fun W hW => by have := hst W hW; unfold Znum at this; rw [if_pos hab] at this; exact this)
            have HHA := Lib.hid (fun W => HHO.out a hab W)
            have HAB := Lib.hid hab
            clear hst hab
            go_wp2_with (go_at_fn g; ((with_reducible refine (HST.out _ HT3.out).mono ?_); rintro e w4 ⟨rfl, hb⟩; have P4 := Lib.hid (P3.out.keep hb); have X4 := X3.out.keep hb; have F4 : Hid (∀ i g, (FJ.map stepFn)[i]? = some g → w4.cell? ⟨bf, i, none⟩ = some (fnV g)) := Lib.hid (fun i g h => cell_keep9 hb (F3.out i g h)); clear hb; obtain ⟨x0, x1, x2, x3, x4, x5, x6, x7, x8, x9, x10, x11⟩ := (X4.alloc (.cells #[.bool (decide (a < 0)), .int .u64 (lb 0 (a).natAbs), .int .u64 (lb 1 (a).natAbs), .int .u64 (lb 2 (a).natAbs), .int .u64 (lb 3 (a).natAbs)] 29)).parts))
            ((with_reducible refine (HHA.out _).mono ?_); rintro e w5 ⟨rfl, hb⟩)
            have hb5 := btr (bal (Below.refl w4.heap.size w4) _) hb
            have P5 := Lib.hid (P4.out.keep hb5); have X5 := Lib.hid (X4.keep hb5)
            have Y5 := Row5.keep hb (Row5.new w4 (.bool (decide (a < 0))) (.int .u64 (lb 0 (a).natAbs)) (.int .u64 (lb 1 (a).natAbs)) (.int .u64 (lb 2 (a).natAbs)) (.int .u64 (lb 3 (a).natAbs)))
            have F5 : Hid (∀ i g, (FJ.map stepFn)[i]? = some g → w5.cell? ⟨bf, i, none⟩ = some (fnV g)) := Lib.hid (fun i g h => cell_keep9 hb5 (F4.out i g h))
            have hb5s := hb5.size
            have hD5 := P5.out.best.lt
            clear hb hb5 x0 x1 x2 x3 x4 x5 x6 x7 x8 x9 x10 x11
            obtain ⟨y0, y1, y2, y3, y4⟩ := Y5.parts
            obtain ⟨d0, d1, d2, d3, d4⟩ := P5.out.best.parts
            obtain ⟨e0, e1, e2, e3, e4⟩ := P5.out.best.free
            by_cases hq : (decide (loE s ≤ a) && decide (a ≤ hiE s)) = true
            · have HQ := Lib.hid hq
              rw [hq]
              clear hq
              cases b' with
              | none =>
                obtain rfl : p' = false := SJ.out.1
                have HTK : Hid (tryS s none j = some a) := Lib.hid (try_yes HA0.out (by unfold takes; rw [decide_eq_true HAB.out, HQ.out]; rfl))
                go_wp2
                go_roundw
                case rel => exact ⟨m + 1, some a, true, by omega, by go_num, rfl, Lib.hid ⟨rfl, P5.out.put (by omega) (by omega) HAB.out, by rw [← SJ.out.2.2, HFM.out, HTK.out]⟩, Lib.hid ((((((X5.out.set (by omega) _).set (by omega) _).set (by omega) _).set (by omega) _).set (by omega) _)), Lib.hid (fun i g h => (cell_set9 (cell_set9 (cell_set9 (cell_set9 (cell_set9 (F5.out i g h) (by omega) _) (by omega) _) (by omega) _) (by omega) _) (by omega) _))⟩
                case measure => simp [intOf]; omega
              | some b0 =>
                obtain rfl : p' = true := SJ.out.1
                have hisn := isnearer_any a b0 HAB.out P5.out.rng
                simp only [Option.getD_some] at d0 d1 d2 d3 d4
                by_cases hin : isN a b0 = true
                · have HTK : Hid (tryS s (some b0) j = some a) := Lib.hid (try_yes HA0.out (by unfold takes; rw [decide_eq_true HAB.out, HQ.out]; exact hin))
                  rw [hin] at hisn
                  have HIS : Hid (∀ W, Calls Tryz.prog 20 #[.agg #[.bool (decide (a < 0)), .int .u64 (lb 0 (a).natAbs), .int .u64 (lb 1 (a).natAbs), .int .u64 (lb 2 (a).natAbs), .int .u64 (lb 3 (a).natAbs)], .agg #[.bool (decide (b0 < 0)), .int .u64 (lb 0 (b0).natAbs), .int .u64 (lb 1 (b0).natAbs), .int .u64 (lb 2 (b0).natAbs), .int .u64 (lb 3 (b0).natAbs)]] W fun e w' => e = .returned (.bool true) ∧ Below W.heap.size W w') := Lib.hid hisn
                  clear hisn hin
                  go_wp2_with fail
                  ((with_reducible refine (HIS.out _).mono ?_); rintro e w6 ⟨rfl, hb⟩)
                  have P6 := Lib.hid (P5.out.keep hb); have X6 := Lib.hid (X5.out.keep hb); have Y6 := Y5.keep hb
                  have F6 : Hid (∀ i g, (FJ.map stepFn)[i]? = some g → w6.cell? ⟨bf, i, none⟩ = some (fnV g)) := Lib.hid (fun i g h => cell_keep9 hb (F5.out i g h))
                  clear hb y0 y1 y2 y3 y4 d0 d1 d2 d3 d4 e0 e1 e2 e3 e4
                  obtain ⟨y0, y1, y2, y3, y4⟩ := Y6.parts
                  obtain ⟨d0, d1, d2, d3, d4⟩ := P6.out.best.parts
                  obtain ⟨e0, e1, e2, e3, e4⟩ := P6.out.best.free
                  go_wp2
                  go_roundw
                  case rel => exact ⟨m + 1, some a, true, by omega, by go_num, rfl, Lib.hid ⟨rfl, P6.out.put (by omega) (by omega) HAB.out, by rw [← SJ.out.2.2, HFM.out, HTK.out]⟩, Lib.hid ((((((X6.out.set (by omega) _).set (by omega) _).set (by omega) _).set (by omega) _).set (by omega) _)), Lib.hid (fun i g h => (cell_set9 (cell_set9 (cell_set9 (cell_set9 (cell_set9 (F6.out i g h) (by omega) _) (by omega) _) (by omega) _) (by omega) _) (by omega) _))⟩
                  case measure => simp [intOf]; omega
                · have hin' : isN a b0 = false := by simpa using hin
                  have HTK : Hid (tryS s (some b0) j = some b0) := Lib.hid (try_no HA0.out (by unfold takes; rw [decide_eq_true HAB.out, HQ.out]; exact hin'))
                  rw [hin'] at hisn
                  have HIS : Hid (∀ W, Calls Tryz.prog 20 #[.agg #[.bool (decide (a < 0)), .int .u64 (lb 0 (a).natAbs), .int .u64 (lb 1 (a).natAbs), .int .u64 (lb 2 (a).natAbs), .int .u64 (lb 3 (a).natAbs)], .agg #[.bool (decide (b0 < 0)), .int .u64 (lb 0 (b0).natAbs), .int .u64 (lb 1 (b0).natAbs), .int .u64 (lb 2 (b0).natAbs), .int .u64 (lb 3 (b0).natAbs)]] W fun e w' => e = .returned (.bool false) ∧ Below W.heap.size W w') := Lib.hid hisn
                  clear hisn hin hin'
                  go_wp2_with fail
                  ((with_reducible refine (HIS.out _).mono ?_); rintro e w6 ⟨rfl, hb⟩)
                  have P6 := Lib.hid (P5.out.keep hb); have X6 := Lib.hid (X5.out.keep hb)
                  have F6 : Hid (∀ i g, (FJ.map stepFn)[i]? = some g → w6.cell? ⟨bf, i, none⟩ = some (fnV g)) := Lib.hid (fun i g h => cell_keep9 hb (F5.out i g h))
                  clear hb
                  go_wp2
                  go_roundw
                  case rel => exact ⟨m + 1, some b0, true, by omega, by go_num, rfl, Lib.hid ⟨rfl, P6.out, by rw [← SJ.out.2.2, HFM.out, HTK.out]⟩, X6, F6⟩
                  case measure => simp [intOf]; omega
            · have hq' : (decide (loE s ≤ a) && decide (a ≤ hiE s)) = false := by simpa using hq
              have HTK : Hid (tryS s b' j = b') := Lib.hid (try_no HA0.out (by unfold takes; rw [hq']; simp))
              rw [hq']
              clear hq hq'
              go_wp2
              go_roundw
              case rel => exact ⟨m + 1, b', p', by omega, by go_num, rfl, Lib.hid ⟨SJ.out.1, P5.out, by rw [← SJ.out.2.2, HFM.out, HTK.out]⟩, X5, F5⟩
              case measure => simp [intOf]; omega
          · have HST : Hid (∀ W, Tb W → Calls Tryz.prog g #[Iz (nearS s)] W fun e w' => e = .returned (.tuple #[.agg #[.bool false, .int .u64 0, .int .u64 0, .int .u64 0, .int .u64 0], .bool false]) ∧ Below W.heap.size W w') := Lib.hid (fun W hW => by have := hst W hW; unfold Znum at this; rw [if_neg hab] at this; exact this)
            have HTK : Hid (tryS s b' j = b') := Lib.hid (try_no HA0.out (by unfold takes; rw [decide_eq_false hab]; rfl))
            clear hst hab
            go_wp2_with (go_at_fn g; ((with_reducible refine (HST.out _ HT3.out).mono ?_); rintro e w4 ⟨rfl, hb⟩; have P4 := Lib.hid (P3.out.keep hb); have X4 := Lib.hid (X3.out.keep hb); have F4 : Hid (∀ i g, (FJ.map stepFn)[i]? = some g → w4.cell? ⟨bf, i, none⟩ = some (fnV g)) := Lib.hid (fun i g h => cell_keep9 hb (F3.out i g h)); clear hb))
            go_roundw
            case rel => exact ⟨m + 1, b', p', by omega, by go_num, rfl, Lib.hid ⟨SJ.out.1, P4.out.keep (bal (Below.refl _ _) _), by rw [← SJ.out.2.2, HFM.out, HTK.out]⟩, Lib.hid (X4.out.alloc _), Lib.hid (fun i g h => alloc_cell9 (F4.out i g h) _)⟩
            case measure => simp [intOf]; omega
        · have hge : ¬ (m : Int) < (FJ.length : Int) := by omega
          have hfin : Hid (b' = FJ.foldl (tryS s) b) := Lib.hid (by have := SJ.out.2.2; rw [List.drop_eq_nil_of_le (by omega)] at this; exact this)
          go_wp2
          go_roundw
          case rel => exact ⟨k + 1, b', p', by omega, by go_num, rfl, Lib.hid ⟨SJ.out.1, SJ.out.2.1, by have h0 := HFK.out; have h1 := hfin.out; rw [HFJ.out] at h0 h1; rw [← HSI.out, h0, h1]⟩⟩
          case measure => simp [intOf]; omega
    · have hge : ¬ (k : Int) < (n : Int) := by omega
      have hfin : Hid (b = PT) := Lib.hid (by have := SI.out.2.2; rw [List.drop_eq_nil_of_le (by have := HN.out; omega)] at this; exact this)
      obtain ⟨p0, p1, p2, p3, p4⟩ := SI.out.2.1.best.parts
      obtain ⟨f0, f1, f2, f3, f4⟩ := SI.out.2.1.res.free
      obtain ⟨q0, q1, q2, q3, q4⟩ := SI.out.2.1.res.parts
      have HP1 := Lib.hid SI.out.1
      have hres := SI.out.2.1.res.lt
      have HBW := Lib.hid SI.out.2.1.bw
      go_wp2
      exact bodyPost_ret (v := .tuple #[Iz (b.getD 0), .bool p]) (by simp [results, Tryz.results6, go_sem, q0, q1, q2, q3, q4]) rfl ⟨by rw [← HPT.out, ← hfin.out, HP1.out], bsc5 HBW.out (by omega) _ _ _ _ _⟩
/-- span.Pick. -/
theorem pick_in (ex ro : Bool) {a : Value} {A : List Sp} {w : World} (hA : In9 w a A) (hT : Tb w) : Calls Tryz.prog 6 #[a, .bool ex, .bool ro] w fun e w' => e = .returned (.tuple #[Iz ((pickT A ex ro).getD 0), .bool (pickT A ex ro).isSome]) ∧ Below w.heap.size w w' := by
  have hm := may_in (hA.keep (bal (Below.refl _ _) (.cells #[.bool false, .int .u64 0, .int .u64 0, .int .u64 0, .int .u64 0] 29)))
  obtain ⟨la, lca, ba, oa, rfl, h2, h3, h4, h5, h6⟩ := hA
  exact pick_core ex ro la lca A ba oa w hT h5 h2 h6 hm
end Go.Proofs.YtjlgiejggcbgbaaGreatDoor
end
