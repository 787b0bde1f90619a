/-
  entrepotlaw6.ValueWithin answers true for any value and any part of it.
-/
import Derived.Test.YtgklokjilfeklaaDoorValFew
import Derived.Lib.QuietBelow
import Derived.BigQuiet
namespace Go.Proofs.YtgklokjilfeklaaDoor
open Go.RowKit Go.Shelf
open Go.Sort (grow)

theorem mayN_kid {o : Own} {kids : List VT} {t : VT} (ht : t ∈ kids) (h : mayN (.mk o kids) = 0) : mayN t = 0 := by
  unfold mayN at h ⊢
  by_cases h1 : 16 < (VT.mk o kids).depth
  · rw [if_pos h1] at h; cases h
  rw [if_neg h1] at h
  rw [if_neg (by have := VT.depth_kid (o := o) ht; omega)]
  cases h2 : hasT overT (.mk o kids) with
  | true => rw [h2, if_pos rfl] at h; cases h
  | false =>
    rw [h2, if_neg (by simp)] at h
    rw [(hasT_false h2).2 t ht, if_neg (by simp)]
    cases h3 : hasT wrongT (.mk o kids) with
    | true => rw [h3, if_pos rfl] at h; cases h
    | false => rw [(hasT_false h3).2 t ht, if_neg (by simp)]
theorem inB_may {T : VT} {l : Int} (h : inB T l = true) : mayN T = 0 := by
  unfold inB at h
  split at h
  · assumption
  · cases h
theorem inB_two (T : VT) : inB T 2 = (mayN T == 0) := by
  unfold inB
  by_cases h : mayN T = 0
  · rw [if_pos h, h]; rfl
  · rw [if_neg h, beq_eq_false_iff_ne.2 h]
theorem inB_zero (T : VT) : inB T 0 = false := by unfold inB; split <;> rfl
theorem inB_four (T : VT) : inB T 4 = false := by unfold inB; split <;> rfl
theorem inB_three {T : VT} (h : inB T 3 = true) : T.o.kind = 8 := by
  have h0 := inB_may h
  unfold inB at h
  rw [if_pos h0, if_neg (by decide), if_neg (by decide), if_pos rfl, Bool.and_eq_true] at h
  exact of_decide_eq_true h.1
theorem inB_kid1 {o : Own} {kids : List VT} {t : VT} (ht : t ∈ kids) (h : inB (.mk o kids) 1 = true) : inB t 1 = true := by
  have h0 := inB_may h
  unfold inB at h ⊢
  rw [if_pos h0, if_pos rfl] at h
  have h1 := hasT_false (T := .mk o kids) (p := notJsonT) (by simpa using h)
  rw [if_pos (mayN_kid ht h0), if_pos rfl, h1.2 t ht]; rfl
theorem inB_kid2 {o : Own} {kids : List VT} {t : VT} (ht : t ∈ kids) (h : inB (.mk o kids) 2 = true) : inB t 2 = true := by
  rw [inB_two, mayN_kid ht (inB_may h)]; rfl

set_option maxHeartbeats 1000000 in
theorem within_told (kd : Int) (g : Bool) (x0 x1 x2 x3 b : Int) (s : ByteArray) (la : Option Addr) (n lc : Nat) (ka : Option Addr) (m kc : Nat) (i : Int) (w : World) (hT : Tb w)
    (k1 : ∀ W, Below w.heap.size w W → Calls Tryd.prog 9 #[V10 kd g x0 x1 x2 x3 b s la n lc ka m kc] W fun e w' => e = .returned (.bool false) ∧ Below W.heap.size W w') :
    Calls Tryd.prog 6 #[V10 kd g x0 x1 x2 x3 b s la n lc ka m kc, .int .i64 i] w fun e w' => e = .returned (.bool true) ∧ Below w.heap.size w w' := by
  have K1 := Lib.hid k1; have HT := Lib.hid hT
  clear k1 hT
  go_enter Tryd.func6, Tryd.ntmps6
  go_wp2_with (first | (go_at_call 9; ((with_reducible refine (K1.out _ (bal (Below.refl _ _) _)).mono ?_); rintro e w1 ⟨rfl, hb1⟩)) | (go_at_call 11; ((with_reducible refine (told6_true _ (tb_on (tb_on HT.out (bal (Below.refl _ _) _)) hb1)).mono ?_); rintro e w2 ⟨rfl, hb2⟩)))
  go_ret
  exact ⟨rfl, btr (btr (bal (Below.refl _ _) _) hb1) hb2⟩

set_option maxRecDepth 100000 in
set_option maxHeartbeats 8000000 in
theorem within_none (kd : Int) (g : Bool) (x0 x1 x2 x3 b : Int) (s : ByteArray) (la : Option Addr) (lc : Nat) (ka : Option Addr) (m kc : Nat) (i : Int) (w : World) (hT : Tb w) (j c p : Bool) (z : Int)
    (hz : (z == 0) = c) (hj : j = true → c = true) (hp : p = true → c = true) (hk : p = true → kd = 8)
    (k1 : ∀ W, Below w.heap.size w W → Calls Tryd.prog 9 #[V10 kd g x0 x1 x2 x3 b s la 0 lc ka m kc] W fun e w' => e = .returned (.bool true) ∧ Below W.heap.size W w')
    (k2 : ∀ W, Below w.heap.size w W → Calls Tryd.prog 18 #[V10 kd g x0 x1 x2 x3 b s la 0 lc ka m kc, .int .i64 1] W fun e w' => e = .returned (.bool j) ∧ Below W.heap.size W w')
    (k3 : ∀ W, Below w.heap.size w W → Calls Tryd.prog 18 #[V10 kd g x0 x1 x2 x3 b s la 0 lc ka m kc, .int .i64 2] W fun e w' => e = .returned (.bool c) ∧ Below W.heap.size W w')
    (k4 : ∀ W, Below w.heap.size w W → Calls Tryd.prog 18 #[V10 kd g x0 x1 x2 x3 b s la 0 lc ka m kc, .int .i64 3] W fun e w' => e = .returned (.bool p) ∧ Below W.heap.size W w')
    (k5 : ∀ W, Below w.heap.size w W → Calls Tryd.prog 15 #[V10 kd g x0 x1 x2 x3 b s la 0 lc ka m kc] W fun e w' => e = .returned (.int .i64 z) ∧ Below W.heap.size W w')
    (k6 : ∀ W, Below w.heap.size w W → Calls Tryd.prog 18 #[V10 kd g x0 x1 x2 x3 b s la 0 lc ka m kc, .int .i64 0] W fun e w' => e = .returned (.bool false) ∧ Below W.heap.size W w')
    (k7 : ∀ W, Below w.heap.size w W → Calls Tryd.prog 18 #[V10 kd g x0 x1 x2 x3 b s la 0 lc ka m kc, .int .i64 4] W fun e w' => e = .returned (.bool false) ∧ Below W.heap.size W w') :
    Calls Tryd.prog 6 #[V10 kd g x0 x1 x2 x3 b s la 0 lc ka m kc, .int .i64 i] w fun e w' => e = .returned (.bool true) ∧ Below w.heap.size w w' := by
  have K1 := Lib.hid k1; have K2 := Lib.hid k2; have K3 := Lib.hid k3; have K4 := Lib.hid k4; have K5 := Lib.hid k5; have K6 := Lib.hid k6; have K7 := Lib.hid k7; have HT := Lib.hid hT
  clear k1 k2 k3 k4 k5 k6 k7 hT
  cases j <;> cases c <;> cases p
  all_goals
    first
    | (cases (hj rfl); done)
    | (cases (hp rfl); done)
    | skip
  all_goals
    first
    | (obtain rfl := hk rfl)
    | (clear hk)
    clear hj hp
    go_enter Tryd.func6, Tryd.ntmps6
    go_wp2_with fail
    ((with_reducible refine (K1.out _ (bal (Below.refl _ _) _)).mono ?_); rintro e w1 ⟨rfl, hb1⟩)
    have X1 := Row10.keep hb1 (Row10.new w (.int .i64 _) (.bool g) (.int .u64 x0) (.int .u64 x1) (.int .u64 x2) (.int .u64 x3) (.int .u64 b) (.string s) (.slice la 0 lc) (.slice ka m kc))
    have B1 := Lib.hid (btr (bal (Below.refl w.heap.size w) _) hb1)
    clear hb1
    obtain ⟨q0, q1, q2, q3, q4, q5, q6, q7, q8, q9⟩ := X1.parts
    go_upto_region 3 with (fail)
    have r0 := cell_regrown q0; have r1 := cell_regrown q1; have r2 := cell_regrown q2; have r3 := cell_regrown q3; have r4 := cell_regrown q4; have r5 := cell_regrown q5; have r6 := cell_regrown q6; have r7 := cell_regrown q7; have r8 := cell_regrown q8; have r9 := cell_regrown q9
    clear q0 q1 q2 q3 q4 q5 q6 q7 q8 q9
    have cq0 := fun (d : Nat) (os : Array Obj) => Calls.regrown_of (w := w1) (d := d) (os := os) (K2.out _ (btr B1.out (below_regrown w1 d os)))
    have cq1 := fun (d : Nat) (os : Array Obj) => Calls.regrown_of (w := w1) (d := d) (os := os) (K3.out _ (btr B1.out (below_regrown w1 d os)))
    have cq2 := fun (d : Nat) (os : Array Obj) => Calls.regrown_of (w := w1) (d := d) (os := os) (K4.out _ (btr B1.out (below_regrown w1 d os)))
    refine wp_region_quiet_below (by kernel_rfl) (by kernel_rfl) ?_
    repeat (first | go_big_quiet_step ((first | with_reducible exact cq0 _ _ | with_reducible exact cq1 _ _ | with_reducible exact cq2 _ _)) | quiet_step (first | with_reducible exact cq0 _ _ | with_reducible exact cq1 _ _ | with_reducible exact cq2 _ _))
    refine wpQuiet_nil ?_
    intro _ hw'
    obtain ⟨⟨dq, osq⟩, hw''⟩ := hw'
    subst hw''
    clear r0 r1 r2 r3 r4 r5 r6 r7 r8 r9 cq0 cq1 cq2
    have hb := below_regrown w1 dq osq
    generalize grow (redrawn w1 dq) osq = w2 at *
    have B2 := Lib.hid (btr B1.out hb)
    have X2 := Row10.keep hb X1
    clear X1 hb B1
    obtain ⟨q0, q1, q2, q3, q4, q5, q6, q7, q8, q9⟩ := X2.parts
    go_wp2_with fail
    ((with_reducible refine (K5.out _ B2.out).mono ?_); rintro e w3 ⟨rfl, hb⟩)
    have B3 := Lib.hid (btr B2.out hb); have X3 := Row10.keep hb X2
    clear hb B2 X2 q0 q1 q2 q3 q4 q5 q6 q7 q8 q9
    obtain ⟨q0, q1, q2, q3, q4, q5, q6, q7, q8, q9⟩ := X3.parts
    go_wp2_with fail
    ((with_reducible refine (K6.out _ B3.out).mono ?_); rintro e w4 ⟨rfl, hb⟩)
    have B4 := Lib.hid (btr B3.out hb); have X4 := Row10.keep hb X3
    clear hb B3 X3 q0 q1 q2 q3 q4 q5 q6 q7 q8 q9
    obtain ⟨q0, q1, q2, q3, q4, q5, q6, q7, q8, q9⟩ := X4.parts
    go_wp2_with fail
    ((with_reducible refine (K7.out _ B4.out).mono ?_); rintro e w5 ⟨rfl, hb⟩)
    have B5 := Lib.hid (btr B4.out hb); have X5 := Row10.keep hb X4
    clear hb B4 X4 q0 q1 q2 q3 q4 q5 q6 q7 q8 q9
    obtain ⟨q0, q1, q2, q3, q4, q5, q6, q7, q8, q9⟩ := X5.parts
    go_wp2_with (go_at_call 11; ((with_reducible refine (told6_true _ (tb_on HT.out B5.out)).mono ?_); rintro e w6 ⟨rfl, hb6⟩))
    go_ret
    exact ⟨rfl, btr B5.out hb6⟩
set_option maxRecDepth 100000 in
set_option maxHeartbeats 8000000 in
theorem within_kid (kd : Int) (g : Bool) (x0 x1 x2 x3 b : Int) (s : ByteArray) (bb off n lc : Nat) (ka : Option Addr) (m kc : Nat) (i : Int) (k : Nat) (hi : IntKind.i64.wrap ((IntKind.u64.wrap i).tmod (n : Int)) = (k : Int)) (hn : 0 < n) (hn2 : n ≤ 400) (hkn : k < n) (w : World) (hT : Tb w) (j c p : Bool) (z : Int)
    (hz : (z == 0) = c) (hj : j = true → c = true) (hp : p = true → c = true) (hk : p = true → kd = 8)
    (kd2 : Int) (g2 : Bool) (y0 y1 y2 y3 b2 : Int) (s2 : ByteArray) (la2 : Option Addr) (n2 lc2 : Nat) (ka2 : Option Addr) (m2 kc2 : Nat)
    (c0 : w.cell? ⟨bb, off + k * 10, none⟩ = some (.int .i64 kd2)) (c1 : w.cell? ⟨bb, off + k * 10 + 1, none⟩ = some (.bool g2)) (c2 : w.cell? ⟨bb, off + k * 10 + 2, none⟩ = some (.int .u64 y0)) (c3 : w.cell? ⟨bb, off + k * 10 + 3, none⟩ = some (.int .u64 y1)) (c4 : w.cell? ⟨bb, off + k * 10 + 4, none⟩ = some (.int .u64 y2)) (c5 : w.cell? ⟨bb, off + k * 10 + 5, none⟩ = some (.int .u64 y3)) (c6 : w.cell? ⟨bb, off + k * 10 + 6, none⟩ = some (.int .u64 b2)) (c7 : w.cell? ⟨bb, off + k * 10 + 7, none⟩ = some (.string s2)) (c8 : w.cell? ⟨bb, off + k * 10 + 8, none⟩ = some (.slice la2 n2 lc2)) (c9 : w.cell? ⟨bb, off + k * 10 + 9, none⟩ = some (.slice ka2 m2 kc2))
    (k1 : ∀ W, Below w.heap.size w W → Calls Tryd.prog 9 #[V10 kd g x0 x1 x2 x3 b s (some ⟨bb, off, none⟩) n lc ka m kc] W fun e w' => e = .returned (.bool true) ∧ Below W.heap.size W w')
    (k2 : ∀ W, Below w.heap.size w W → Calls Tryd.prog 18 #[V10 kd g x0 x1 x2 x3 b s (some ⟨bb, off, none⟩) n lc ka m kc, .int .i64 1] W fun e w' => e = .returned (.bool j) ∧ Below W.heap.size W w')
    (k3 : ∀ W, Below w.heap.size w W → Calls Tryd.prog 18 #[V10 kd g x0 x1 x2 x3 b s (some ⟨bb, off, none⟩) n lc ka m kc, .int .i64 2] W fun e w' => e = .returned (.bool c) ∧ Below W.heap.size W w')
    (k4 : ∀ W, Below w.heap.size w W → Calls Tryd.prog 18 #[V10 kd g x0 x1 x2 x3 b s (some ⟨bb, off, none⟩) n lc ka m kc, .int .i64 3] W fun e w' => e = .returned (.bool p) ∧ Below W.heap.size W w')
    (k5 : ∀ W, Below w.heap.size w W → Calls Tryd.prog 15 #[V10 kd g x0 x1 x2 x3 b s (some ⟨bb, off, none⟩) n lc ka m kc] W fun e w' => e = .returned (.int .i64 z) ∧ Below W.heap.size W w')
    (k6 : ∀ W, Below w.heap.size w W → Calls Tryd.prog 18 #[V10 kd g x0 x1 x2 x3 b s (some ⟨bb, off, none⟩) n lc ka m kc, .int .i64 0] W fun e w' => e = .returned (.bool false) ∧ Below W.heap.size W w')
    (k7 : ∀ W, Below w.heap.size w W → Calls Tryd.prog 18 #[V10 kd g x0 x1 x2 x3 b s (some ⟨bb, off, none⟩) n lc ka m kc, .int .i64 4] W fun e w' => e = .returned (.bool false) ∧ Below W.heap.size W w')
    (k8 : j = true → ∀ W, Below w.heap.size w W → Calls Tryd.prog 18 #[V10 kd2 g2 y0 y1 y2 y3 b2 s2 la2 n2 lc2 ka2 m2 kc2, .int .i64 1] W fun e w' => e = .returned (.bool true) ∧ Below W.heap.size W w')
    (k9 : c = true → ∀ W, Below w.heap.size w W → Calls Tryd.prog 18 #[V10 kd2 g2 y0 y1 y2 y3 b2 s2 la2 n2 lc2 ka2 m2 kc2, .int .i64 2] W fun e w' => e = .returned (.bool true) ∧ Below W.heap.size W w') :
    Calls Tryd.prog 6 #[V10 kd g x0 x1 x2 x3 b s (some ⟨bb, off, none⟩) n lc ka m kc, .int .i64 i] w fun e w' => e = .returned (.bool true) ∧ Below w.heap.size w w' := by
  have HI := Lib.hid hi; have C := Lib.hid (And.intro c0 (And.intro c1 (And.intro c2 (And.intro c3 (And.intro c4 (And.intro c5 (And.intro c6 (And.intro c7 (And.intro c8 c9)))))))))
  have K8 := Lib.hid k8; have K9 := Lib.hid k9
  clear hi c0 c1 c2 c3 c4 c5 c6 c7 c8 c9 k8 k9
  have hn0 : ((n : Int) == 0) = false := by rw [beq_eq_false_iff_ne]; omega
  have K1 := Lib.hid k1; have K2 := Lib.hid k2; have K3 := Lib.hid k3; have K4 := Lib.hid k4; have K5 := Lib.hid k5; have K6 := Lib.hid k6; have K7 := Lib.hid k7; have HT := Lib.hid hT
  clear k1 k2 k3 k4 k5 k6 k7 hT
  cases j <;> cases c <;> cases p
  all_goals
    first
    | (cases (hj rfl); done)
    | (cases (hp rfl); done)
    | skip
  all_goals
    first
    | (obtain rfl := hk rfl)
    | (clear hk)
    clear hj hp
    go_enter Tryd.func6, Tryd.ntmps6
    go_wp2_with fail
    ((with_reducible refine (K1.out _ (bal (Below.refl _ _) _)).mono ?_); rintro e w1 ⟨rfl, hb1⟩)
    have X1 := Row10.keep hb1 (Row10.new w (.int .i64 _) (.bool g) (.int .u64 x0) (.int .u64 x1) (.int .u64 x2) (.int .u64 x3) (.int .u64 b) (.string s) (.slice (some ⟨bb, off, none⟩) n lc) (.slice ka m kc))
    have B1 := Lib.hid (btr (bal (Below.refl w.heap.size w) _) hb1)
    clear hb1
    obtain ⟨q0, q1, q2, q3, q4, q5, q6, q7, q8, q9⟩ := X1.parts
    go_upto_region 3 with (fail)
    have r0 := cell_regrown q0; have r1 := cell_regrown q1; have r2 := cell_regrown q2; have r3 := cell_regrown q3; have r4 := cell_regrown q4; have r5 := cell_regrown q5; have r6 := cell_regrown q6; have r7 := cell_regrown q7; have r8 := cell_regrown q8; have r9 := cell_regrown q9
    clear q0 q1 q2 q3 q4 q5 q6 q7 q8 q9
    have cq0 := fun (d : Nat) (os : Array Obj) => Calls.regrown_of (w := w1) (d := d) (os := os) (K2.out _ (btr B1.out (below_regrown w1 d os)))
    have cq1 := fun (d : Nat) (os : Array Obj) => Calls.regrown_of (w := w1) (d := d) (os := os) (K3.out _ (btr B1.out (below_regrown w1 d os)))
    have cq2 := fun (d : Nat) (os : Array Obj) => Calls.regrown_of (w := w1) (d := d) (os := os) (K4.out _ (btr B1.out (below_regrown w1 d os)))
    refine wp_region_quiet_below (by kernel_rfl) (by kernel_rfl) ?_
    repeat (first | go_big_quiet_step ((first | with_reducible exact cq0 _ _ | with_reducible exact cq1 _ _ | with_reducible exact cq2 _ _)) | quiet_step (first | with_reducible exact cq0 _ _ | with_reducible exact cq1 _ _ | with_reducible exact cq2 _ _))
    refine wpQuiet_nil ?_
    intro _ hw'
    obtain ⟨⟨dq, osq⟩, hw''⟩ := hw'
    subst hw''
    clear r0 r1 r2 r3 r4 r5 r6 r7 r8 r9 cq0 cq1 cq2
    have hb := below_regrown w1 dq osq
    generalize grow (redrawn w1 dq) osq = w2 at *
    have B2 := Lib.hid (btr B1.out hb)
    have X2 := Row10.keep hb X1
    clear X1 hb B1
    obtain ⟨q0, q1, q2, q3, q4, q5, q6, q7, q8, q9⟩ := X2.parts
    go_wp2_with fail
    ((with_reducible refine (K5.out _ B2.out).mono ?_); rintro e w3 ⟨rfl, hb⟩)
    have B3 := Lib.hid (btr B2.out hb); have X3 := Row10.keep hb X2
    clear hb B2 X2 q0 q1 q2 q3 q4 q5 q6 q7 q8 q9
    obtain ⟨q0, q1, q2, q3, q4, q5, q6, q7, q8, q9⟩ := X3.parts
    go_wp2_with fail
    ((with_reducible refine (K6.out _ B3.out).mono ?_); rintro e w4 ⟨rfl, hb⟩)
    have B4 := Lib.hid (btr B3.out hb); have X4 := Row10.keep hb X3
    clear hb B3 X3 q0 q1 q2 q3 q4 q5 q6 q7 q8 q9
    obtain ⟨q0, q1, q2, q3, q4, q5, q6, q7, q8, q9⟩ := X4.parts
    go_wp2_with fail
    ((with_reducible refine (K7.out _ B4.out).mono ?_); rintro e w5 ⟨rfl, hb⟩)
    have B5 := Lib.hid (btr B4.out hb); have X5 := Row10.keep hb X4
    clear hb B4 X4 q0 q1 q2 q3 q4 q5 q6 q7 q8 q9
    obtain ⟨q0, q1, q2, q3, q4, q5, q6, q7, q8, q9⟩ := X5.parts
    obtain ⟨c0, c1, c2, c3, c4, c5, c6, c7, c8, c9⟩ := C.out
    have d0 := cell_keep B5.out c0; have d1 := cell_keep B5.out c1; have d2 := cell_keep B5.out c2; have d3 := cell_keep B5.out c3; have d4 := cell_keep B5.out c4; have d5 := cell_keep B5.out c5; have d6 := cell_keep B5.out c6; have d7 := cell_keep B5.out c7; have d8 := cell_keep B5.out c8; have d9 := cell_keep B5.out c9
    clear c0 c1 c2 c3 c4 c5 c6 c7 c8 c9
    go_upto_region 8 with (fail)
    have hi := HI.out
    have hnz : ¬ n = 0 := by omega
    have a8 := fun o => alloc_cell q8 o
    have a0' := fun o => alloc_cell d0 o
    have a1' := fun o => alloc_cell d1 o
    have a2' := fun o => alloc_cell d2 o
    have a3' := fun o => alloc_cell d3 o
    have a4' := fun o => alloc_cell d4 o
    have a5' := fun o => alloc_cell d5 o
    have a6' := fun o => alloc_cell d6 o
    have a7' := fun o => alloc_cell d7 o
    have a8' := fun o => alloc_cell d8 o
    have a9' := fun o => alloc_cell d9 o
    have hkn2 : (k : Int) < (n : Int) := by omega
    have hun : IntKind.u64.wrap (n : Int) = (n : Int) := by simp only [IntKind.wrap, IntKind.signed, IntKind.bits]; simp; omega
    go_region
    all_goals
      go_upto_region 9 with (fail)
      go_name_world w6 h6
      have B6 : Hid (Below w.heap.size w w6) := by rw [← h6]; show Below _ _ _; repeat (first | (with_reducible exact B5.out) | (with_reducible refine bal ?_ _) | (with_reducible refine Below.drew ?_) | (with_reducible refine bdn ?_ _))
      have X6 : Row10 w6 w5.heap.size (.int .i64 kd2) (.bool g2) (.int .u64 y0) (.int .u64 y1) (.int .u64 y2) (.int .u64 y3) (.int .u64 b2) (.string s2) (.slice la2 n2 lc2) (.slice ka2 m2 kc2) := by rw [← h6]; repeat (first | (with_reducible exact Row10.new _ _ _ _ _ _ _ _ _ _ _) | (with_reducible refine Row10.drew ?_) | (with_reducible refine Row10.alloc ?_ _))
      clear h6 q0 q1 q2 q3 q4 q5 q6 q7 q8 q9 d0 d1 d2 d3 d4 d5 d6 d7 d8 d9 a8 a0' a1' a2' a3' a4' a5' a6' a7' a8' a9' X5 hi hun
      go_wp2_with fail
      ((with_reducible refine (told6_true _ (tb_on HT.out B6.out)).mono ?_); rintro e w7 ⟨rfl, hb⟩)
      have B7 := Lib.hid (btr B6.out hb); have X7 := Row10.keep hb X6
      clear hb B6 X6
      obtain ⟨q0, q1, q2, q3, q4, q5, q6, q7, q8, q9⟩ := X7.parts
      first
      | (go_wp2_with fail
         ((with_reducible refine (K8.out (by trivial) _ B7.out).mono ?_); rintro e w8 ⟨rfl, hb⟩)
         have B8 := Lib.hid (btr B7.out hb); have X8 := Row10.keep hb X7
         clear hb B7 X7 q0 q1 q2 q3 q4 q5 q6 q7 q8 q9
         obtain ⟨q0, q1, q2, q3, q4, q5, q6, q7, q8, q9⟩ := X8.parts
         go_wp2_with fail
         ((with_reducible refine (K9.out (by trivial) _ B8.out).mono ?_); rintro e w9 ⟨rfl, hb⟩)
         go_wp2
         go_ret
         exact ⟨rfl, btr B8.out hb⟩)
      | (go_wp2_with fail
         ((with_reducible refine (K9.out (by trivial) _ B7.out).mono ?_); rintro e w9 ⟨rfl, hb⟩)
         go_wp2
         go_ret
         exact ⟨rfl, btr B7.out hb⟩)
      | (go_wp2
         go_ret
         exact ⟨rfl, B7.out⟩)

theorem uwrap_mod (i : Int) (n : Nat) (h0 : 0 < n) (h1 : n ≤ 400) : ∃ k : Nat, IntKind.i64.wrap ((IntKind.u64.wrap i).tmod (n : Int)) = (k : Int) ∧ k < n := by
  have hu : 0 ≤ IntKind.u64.wrap i := by simp only [IntKind.wrap, IntKind.signed, IntKind.bits]; simp; omega
  have ht : 0 ≤ (IntKind.u64.wrap i).tmod (n : Int) ∧ (IntKind.u64.wrap i).tmod (n : Int) < n := by
    rw [Int.tmod_eq_emod_of_nonneg hu]
    exact ⟨Int.emod_nonneg _ (by omega), Int.emod_lt_of_pos _ (by omega)⟩
  have hw : IntKind.i64.wrap ((IntKind.u64.wrap i).tmod (n : Int)) = (IntKind.u64.wrap i).tmod (n : Int) := IntWalk.i64_in _ (by omega)
  exact ⟨((IntKind.u64.wrap i).tmod (n : Int)).toNat, by rw [hw]; omega, by omega⟩
/-- The law, for every value and any number. -/
theorem within_any (T : VT) (i : Int) (w : World) (hI : T.In w) (hT : Tb w) :
    Calls Tryd.prog 6 #[T.val, .int .i64 i] w fun e w' => e = .returned (.bool true) ∧ Below w.heap.size w w' := by
  have k1 := fun W (hb : Below w.heap.size w W) => vfew T W (hI.keep hb)
  cases hf : fewOk T with
  | false =>
    rw [hf] at k1
    obtain ⟨o, kids⟩ := T
    exact within_told _ _ _ _ _ _ _ _ _ _ _ _ _ _ i w hT k1
  | true =>
    rw [hf] at k1
    obtain ⟨hQ, hn, hd⟩ := few_q hf hI hT
    have hn' : T.nodes ≤ 10000 := by omega
    have k2 := fun W (hb : Below w.heap.size w W) => vin T hn' 1 W (hQ.keep hb)
    have k3 := fun W (hb : Below w.heap.size w W) => vin T hn' 2 W (hQ.keep hb)
    have k4 := fun W (hb : Below w.heap.size w W) => vin T hn' 3 W (hQ.keep hb)
    have k5 := fun W (hb : Below w.heap.size w W) => vmay T hn' W (hQ.keep hb)
    have k6 := fun W (hb : Below w.heap.size w W) => vin T hn' 0 W (hQ.keep hb)
    have k7 := fun W (hb : Below w.heap.size w W) => vin T hn' 4 W (hQ.keep hb)
    rw [inB_zero] at k6
    rw [inB_four] at k7
    have hz : (mayN T == 0) = inB T 2 := (inB_two T).symm
    have hj : inB T 1 = true → inB T 2 = true := fun h => by rw [inB_two, inB_may h]; rfl
    have hp : inB T 3 = true → inB T 2 = true := fun h => by rw [inB_two, inB_may h]; rfl
    have hk : inB T 3 = true → T.o.kind = 8 := inB_three
    obtain ⟨o, kids⟩ := T
    cases hL : kids with
    | nil =>
      subst hL
      exact within_none _ _ _ _ _ _ _ _ _ _ _ _ _ i w hT _ _ _ _ hz hj hp hk k1 k2 k3 k4 k5 k6 k7
    | cons t0 ts =>
      rw [← hL]
      have hlen : 0 < kids.length := by rw [hL]; simp
      have hl4 : kids.length ≤ 400 := by have := VT.length_nodes o kids; omega
      clear hL
      obtain ⟨bb, off, hK⟩ := hI.kids'
      have hla := hK.la hlen
      obtain ⟨k, hi, hkn⟩ := uwrap_mod i kids.length hlen hl4
      obtain ⟨t, ht, hm⟩ := kid_at hkn
      have hc := hK.cells k t ht
      have hQt := hQ.kid t hm
      have hnt := VT.nodes_kid (o := o) hm
      have k8 := fun (h : inB (.mk o kids) 1 = true) W (hb : Below w.heap.size w W) => vin t (by omega) 1 W (hQt.keep hb)
      have k9 := fun (h : inB (.mk o kids) 2 = true) W (hb : Below w.heap.size w W) => vin t (by omega) 2 W (hQt.keep hb)
      have k8' := fun (h : inB (.mk o kids) 1 = true) W (hb : Below w.heap.size w W) => (inB_kid1 hm h) ▸ k8 h W hb
      have k9' := fun (h : inB (.mk o kids) 2 = true) W (hb : Below w.heap.size w W) => (inB_kid2 hm h) ▸ k9 h W hb
      obtain ⟨o2, l2⟩ := t
      obtain ⟨kd2, g2, x2', b2, s2, la2, lc2, ka2, kc2, ks2⟩ := o2
      obtain ⟨c0, c1, c2, c3, c4, c5, c6, c7, c8, c9⟩ := hc.ten
      obtain ⟨kd, g, x, b, s, la, lc, ka, kc, ks⟩ := o
      obtain rfl : la = some ⟨bb, off, none⟩ := hla
      exact within_kid _ _ _ _ _ _ _ _ bb off _ _ _ _ _ i k hi hlen hl4 hkn w hT _ _ _ _ hz hj hp hk _ _ _ _ _ _ _ _ _ _ _ _ _ _ c0 c1 c2 c3 c4 c5 c6 c7 c8 c9 k1 k2 k3 k4 k5 k6 k7 k8' k9'
end Go.Proofs.YtgklokjilfeklaaDoor
