/-
  value.Same: the contract.
-/
import Derived.Test.YtgklokjilfeklaaDoorValSame
namespace Go.Proofs.YtgklokjilfeklaaDoor
open Go.RowKit Go.Shelf
open Go.Sort (grow)
attribute [local go_sem ↓] eqlO

theorem row10_new2 (w : World) (o : Obj) (v0 v1 v2 v3 v4 v5 v6 v7 v8 v9 : Value) : Row10 ((w.alloc o).alloc (.cells #[v0, v1, v2, v3, v4, v5, v6, v7, v8, v9] 30)) (w.heap.size + 1) v0 v1 v2 v3 v4 v5 v6 v7 v8 v9 := by
  have h := Row10.new (w.alloc o) v0 v1 v2 v3 v4 v5 v6 v7 v8 v9
  have hs : (w.alloc o).heap.size = w.heap.size + 1 := by simp
  rwa [hs] at h
set_option maxRecDepth 100000 in
set_option maxHeartbeats 4000000 in
theorem same_own (kd : Int) (g : Bool) (x0 x1 x2 x3 b : Int) (s : ByteArray) (la : Option Addr) (n lc : Nat) (ka : Option Addr) (m kc : Nat) (kd' : Int) (g' : Bool) (y0 y1 y2 y3 b' : Int) (s' : ByteArray) (la' : Option Addr) (n' lc' : Nat) (ka' : Option Addr) (m' kc' : Nat) (w : World) (hD : eqO kd g x0 x1 x2 x3 b s (m : Int) (n : Int) kd' g' y0 y1 y2 y3 b' s' (m' : Int) (n' : Int) = false) :
    Calls Tryd.prog 13 #[V10 kd g x0 x1 x2 x3 b s la n lc ka m kc, V10 kd' g' y0 y1 y2 y3 b' s' la' n' lc' ka' m' kc'] w fun e w' => e = .returned (.bool false) ∧ Below w.heap.size w w' := by
  go_enter Tryd.func13, Tryd.ntmps13
  go_upto_region 1 with (fail)
  go_name_world w1 hw1
  have BW1 : Below w.heap.size w w1 := by rw [← hw1]; repeat (first | (with_reducible exact Below.refl _ _) | (with_reducible refine bal ?_ _) | (with_reducible refine Below.drew ?_) | (with_reducible refine bdn ?_ _))
  have X1 : Row10 w1 w.heap.size (.int .i64 kd) (.bool g) (.int .u64 x0) (.int .u64 x1) (.int .u64 x2) (.int .u64 x3) (.int .u64 b) (.string s) (.slice la n lc) (.slice ka m kc) := by rw [← hw1]; exact Row10.alloc (Row10.new _ _ _ _ _ _ _ _ _ _ _) _
  have Y1 : Row10 w1 (w.heap.size + 1) (.int .i64 kd') (.bool g') (.int .u64 y0) (.int .u64 y1) (.int .u64 y2) (.int .u64 y3) (.int .u64 b') (.string s') (.slice la' n' lc') (.slice ka' m' kc') := by rw [← hw1]; exact row10_new2 _ _ _ _ _ _ _ _ _ _ _ _
  clear hw1
  obtain ⟨q0, q1, q2, q3, q4, q5, q6, q7, q8, q9⟩ := X1.parts
  obtain ⟨t0, t1, t2, t3, t4, t5, t6, t7, t8, t9⟩ := Y1.parts
  have r0 := cell_regrown q0; have s0' := cell_regrown t0
  have r1 := cell_regrown q1; have s1' := cell_regrown t1
  have r2 := cell_regrown q2; have s2' := cell_regrown t2
  have r3 := cell_regrown q3; have s3' := cell_regrown t3
  have r4 := cell_regrown q4; have s4' := cell_regrown t4
  have r5 := cell_regrown q5; have s5' := cell_regrown t5
  have r6 := cell_regrown q6; have s6' := cell_regrown t6
  have r7 := cell_regrown q7; have s7' := cell_regrown t7
  have r8 := cell_regrown q8; have s8' := cell_regrown t8
  have r9 := cell_regrown q9; have s9' := cell_regrown t9
  clear q0 q1 q2 q3 q4 q5 q6 q7 q8 q9 t0 t1 t2 t3 t4 t5 t6 t7 t8 t9
  have cq0 := fun (d : Nat) (os : Array Obj) => Calls.regrown_of (w := w1) (d := d) (os := os) (outline_any kd g x0 x1 x2 x3 b s la n lc ka m kc _)
  have cq1 := fun (d : Nat) (os : Array Obj) => Calls.regrown_of (w := w1) (d := d) (os := os) (outline_any kd' g' y0 y1 y2 y3 b' s' la' n' lc' ka' m' kc' _)
  refine wp_region_quiet_below (by kernel_rfl) (by kernel_rfl) ?_
  repeat (first | go_big_quiet_step ((first | with_reducible exact cq0 _ _ | with_reducible exact cq1 _ _)) | quiet_step (first | with_reducible exact cq0 _ _ | with_reducible exact cq1 _ _))
  refine wpQuiet_nil ?_
  intro _ hw'
  obtain ⟨⟨dq, osq⟩, hw''⟩ := hw'
  subst hw''
  have BW2 := Lib.hid (btr BW1 (below_regrown w1 dq osq))
  clear r0 s0' r1 s1' r2 s2' r3 s3' r4 s4' r5 s5' r6 s6' r7 s7' r8 s8' r9 s9' cq0 cq1
  generalize grow (redrawn w1 dq) osq = w2 at *
  go_wp2
  go_ret
  exact ⟨rfl, BW2.out⟩
set_option maxRecDepth 100000 in
set_option maxHeartbeats 4000000 in
theorem same_keys (kd : Int) (g : Bool) (x0 x1 x2 x3 b : Int) (s : ByteArray) (la : Option Addr) (n lc : Nat) (ka : Option Addr) (m kc : Nat) (kd' : Int) (g' : Bool) (y0 y1 y2 y3 b' : Int) (s' : ByteArray) (la' : Option Addr) (n' lc' : Nat) (ka' : Option Addr) (m' kc' : Nat) (w : World) (hD : eqO kd g x0 x1 x2 x3 b s (m : Int) (n : Int) kd' g' y0 y1 y2 y3 b' s' (m' : Int) (n' : Int) = true) (k1 : ∀ W, Below w.heap.size w W → Calls Tryd.prog 34 #[.slice ka m kc, .slice ka' m' kc'] W fun e w' => e = .returned (.bool false) ∧ Below W.heap.size W w') :
    Calls Tryd.prog 13 #[V10 kd g x0 x1 x2 x3 b s la n lc ka m kc, V10 kd' g' y0 y1 y2 y3 b' s' la' n' lc' ka' m' kc'] w fun e w' => e = .returned (.bool false) ∧ Below w.heap.size w w' := by
  have K1 := Lib.hid k1; clear k1
  go_enter Tryd.func13, Tryd.ntmps13
  go_upto_region 1 with (fail)
  go_name_world w1 hw1
  have BW1 : Below w.heap.size w w1 := by rw [← hw1]; repeat (first | (with_reducible exact Below.refl _ _) | (with_reducible refine bal ?_ _) | (with_reducible refine Below.drew ?_) | (with_reducible refine bdn ?_ _))
  have X1 : Row10 w1 w.heap.size (.int .i64 kd) (.bool g) (.int .u64 x0) (.int .u64 x1) (.int .u64 x2) (.int .u64 x3) (.int .u64 b) (.string s) (.slice la n lc) (.slice ka m kc) := by rw [← hw1]; exact Row10.alloc (Row10.new _ _ _ _ _ _ _ _ _ _ _) _
  have Y1 : Row10 w1 (w.heap.size + 1) (.int .i64 kd') (.bool g') (.int .u64 y0) (.int .u64 y1) (.int .u64 y2) (.int .u64 y3) (.int .u64 b') (.string s') (.slice la' n' lc') (.slice ka' m' kc') := by rw [← hw1]; exact row10_new2 _ _ _ _ _ _ _ _ _ _ _ _
  clear hw1
  obtain ⟨q0, q1, q2, q3, q4, q5, q6, q7, q8, q9⟩ := X1.parts
  obtain ⟨t0, t1, t2, t3, t4, t5, t6, t7, t8, t9⟩ := Y1.parts
  have r0 := cell_regrown q0; have s0' := cell_regrown t0
  have r1 := cell_regrown q1; have s1' := cell_regrown t1
  have r2 := cell_regrown q2; have s2' := cell_regrown t2
  have r3 := cell_regrown q3; have s3' := cell_regrown t3
  have r4 := cell_regrown q4; have s4' := cell_regrown t4
  have r5 := cell_regrown q5; have s5' := cell_regrown t5
  have r6 := cell_regrown q6; have s6' := cell_regrown t6
  have r7 := cell_regrown q7; have s7' := cell_regrown t7
  have r8 := cell_regrown q8; have s8' := cell_regrown t8
  have r9 := cell_regrown q9; have s9' := cell_regrown t9
  clear q0 q1 q2 q3 q4 q5 q6 q7 q8 q9 t0 t1 t2 t3 t4 t5 t6 t7 t8 t9
  have cq0 := fun (d : Nat) (os : Array Obj) => Calls.regrown_of (w := w1) (d := d) (os := os) (outline_any kd g x0 x1 x2 x3 b s la n lc ka m kc _)
  have cq1 := fun (d : Nat) (os : Array Obj) => Calls.regrown_of (w := w1) (d := d) (os := os) (outline_any kd' g' y0 y1 y2 y3 b' s' la' n' lc' ka' m' kc' _)
  have cq2 := fun (d : Nat) (os : Array Obj) => Calls.regrown_of (w := w1) (d := d) (os := os) (K1.out _ (btr BW1 (below_regrown w1 d os)))
  refine wp_region_quiet_below (by kernel_rfl) (by kernel_rfl) ?_
  repeat (first | go_big_quiet_step ((first | with_reducible exact cq0 _ _ | with_reducible exact cq1 _ _ | with_reducible exact cq2 _ _)) | quiet_step (first | with_reducible exact cq0 _ _ | with_reducible exact cq1 _ _ | with_reducible exact cq2 _ _))
  refine wpQuiet_nil ?_
  intro _ hw'
  obtain ⟨⟨dq, osq⟩, hw''⟩ := hw'
  subst hw''
  have BW2 := Lib.hid (btr BW1 (below_regrown w1 dq osq))
  clear r0 s0' r1 s1' r2 s2' r3 s3' r4 s4' r5 s5' r6 s6' r7 s7' r8 s8' r9 s9' cq0 cq1 cq2
  generalize grow (redrawn w1 dq) osq = w2 at *
  go_wp2
  go_ret
  exact ⟨rfl, BW2.out⟩
set_option maxRecDepth 100000 in
set_option maxHeartbeats 4000000 in
theorem same_kids (kd : Int) (g : Bool) (x0 x1 x2 x3 b : Int) (s : ByteArray) (la : Option Addr) (n lc : Nat) (ka : Option Addr) (m kc : Nat) (kd' : Int) (g' : Bool) (y0 y1 y2 y3 b' : Int) (s' : ByteArray) (la' : Option Addr) (n' lc' : Nat) (ka' : Option Addr) (m' kc' : Nat) (w : World) (hD : eqO kd g x0 x1 x2 x3 b s (m : Int) (n : Int) kd' g' y0 y1 y2 y3 b' s' (m' : Int) (n' : Int) = true) (k1 : ∀ W, Below w.heap.size w W → Calls Tryd.prog 34 #[.slice ka m kc, .slice ka' m' kc'] W fun e w' => e = .returned (.bool true) ∧ Below W.heap.size W w') (q : Bool) (k2 : ∀ W, Below w.heap.size w W → Calls Tryd.prog 35 #[.slice la n lc, .slice la' n' lc', .func (.func 13) #[] #[]] W fun e w' => e = .returned (.bool q) ∧ Below W.heap.size W w') :
    Calls Tryd.prog 13 #[V10 kd g x0 x1 x2 x3 b s la n lc ka m kc, V10 kd' g' y0 y1 y2 y3 b' s' la' n' lc' ka' m' kc'] w fun e w' => e = .returned (.bool q) ∧ Below w.heap.size w w' := by
  have K1 := Lib.hid k1; have K2 := Lib.hid k2; clear k1 k2
  go_enter Tryd.func13, Tryd.ntmps13
  go_upto_region 1 with (fail)
  go_name_world w1 hw1
  have BW1 : Below w.heap.size w w1 := by rw [← hw1]; repeat (first | (with_reducible exact Below.refl _ _) | (with_reducible refine bal ?_ _) | (with_reducible refine Below.drew ?_) | (with_reducible refine bdn ?_ _))
  have X1 : Row10 w1 w.heap.size (.int .i64 kd) (.bool g) (.int .u64 x0) (.int .u64 x1) (.int .u64 x2) (.int .u64 x3) (.int .u64 b) (.string s) (.slice la n lc) (.slice ka m kc) := by rw [← hw1]; exact Row10.alloc (Row10.new _ _ _ _ _ _ _ _ _ _ _) _
  have Y1 : Row10 w1 (w.heap.size + 1) (.int .i64 kd') (.bool g') (.int .u64 y0) (.int .u64 y1) (.int .u64 y2) (.int .u64 y3) (.int .u64 b') (.string s') (.slice la' n' lc') (.slice ka' m' kc') := by rw [← hw1]; exact row10_new2 _ _ _ _ _ _ _ _ _ _ _ _
  clear hw1
  obtain ⟨q0, q1, q2, q3, q4, q5, q6, q7, q8, q9⟩ := X1.parts
  obtain ⟨t0, t1, t2, t3, t4, t5, t6, t7, t8, t9⟩ := Y1.parts
  have r0 := cell_regrown q0; have s0' := cell_regrown t0
  have r1 := cell_regrown q1; have s1' := cell_regrown t1
  have r2 := cell_regrown q2; have s2' := cell_regrown t2
  have r3 := cell_regrown q3; have s3' := cell_regrown t3
  have r4 := cell_regrown q4; have s4' := cell_regrown t4
  have r5 := cell_regrown q5; have s5' := cell_regrown t5
  have r6 := cell_regrown q6; have s6' := cell_regrown t6
  have r7 := cell_regrown q7; have s7' := cell_regrown t7
  have r8 := cell_regrown q8; have s8' := cell_regrown t8
  have r9 := cell_regrown q9; have s9' := cell_regrown t9
  clear q0 q1 q2 q3 q4 q5 q6 q7 q8 q9 t0 t1 t2 t3 t4 t5 t6 t7 t8 t9
  have cq0 := fun (d : Nat) (os : Array Obj) => Calls.regrown_of (w := w1) (d := d) (os := os) (outline_any kd g x0 x1 x2 x3 b s la n lc ka m kc _)
  have cq1 := fun (d : Nat) (os : Array Obj) => Calls.regrown_of (w := w1) (d := d) (os := os) (outline_any kd' g' y0 y1 y2 y3 b' s' la' n' lc' ka' m' kc' _)
  have cq2 := fun (d : Nat) (os : Array Obj) => Calls.regrown_of (w := w1) (d := d) (os := os) (K1.out _ (btr BW1 (below_regrown w1 d os)))
  have cq3 := fun (d : Nat) (os : Array Obj) => Calls.regrown_of (w := w1) (d := d) (os := os) (K2.out _ (btr BW1 (below_regrown w1 d os)))
  refine wp_region_quiet_below (by kernel_rfl) (by kernel_rfl) ?_
  repeat (first | go_big_quiet_step ((first | with_reducible exact cq0 _ _ | with_reducible exact cq1 _ _ | with_reducible exact cq2 _ _ | with_reducible exact cq3 _ _)) | quiet_step (first | with_reducible exact cq0 _ _ | with_reducible exact cq1 _ _ | with_reducible exact cq2 _ _ | with_reducible exact cq3 _ _))
  refine wpQuiet_nil ?_
  intro _ hw'
  obtain ⟨⟨dq, osq⟩, hw''⟩ := hw'
  subst hw''
  have BW2 := Lib.hid (btr BW1 (below_regrown w1 dq osq))
  clear r0 s0' r1 s1' r2 s2' r3 s3' r4 s4' r5 s5' r6 s6' r7 s7' r8 s8' r9 s9' cq0 cq1 cq2 cq3
  generalize grow (redrawn w1 dq) osq = w2 at *
  go_wp2
  go_ret
  exact ⟨rfl, BW2.out⟩

/-- Are two values the same in all parts? -/
def sameT : VT → VT → Bool
  | .mk o l, U => eqO o.kind o.g (lb 0 o.x) (lb 1 o.x) (lb 2 o.x) (lb 3 o.x) o.bits o.text (o.keys.length : Int) (l.length : Int) U.o.kind U.o.g (lb 0 U.o.x) (lb 1 U.o.x) (lb 2 U.o.x) (lb 3 U.o.x) U.o.bits U.o.text (U.o.keys.length : Int) (U.kids.length : Int) &&
      (keysEq o.keys U.o.keys && kidsEq (l.map fun k => sameT k) U.kids)
/-- value.Same. -/
theorem vsame : ∀ (T U : VT) (w : World), T.In w → U.In w → Calls Tryd.prog 13 #[T.val, U.val] w fun e w' => e = .returned (.bool (sameT T U)) ∧ Below w.heap.size w w' := by
  intro T
  induction T using VT.ind with
  | h o kids ih =>
    intro U w hT hU
    obtain ⟨kb, koff, hK⟩ := hT.keys'
    obtain ⟨bb, off, hL⟩ := hT.kids'
    obtain ⟨o', us⟩ := U
    obtain ⟨kb', koff', hK'⟩ := hU.keys'
    obtain ⟨bb', off', hL'⟩ := hU.kids'
    have k1 := fun W (hb : Below w.heap.size w W) => kequal o.ka o.kcap o.keys kb koff o'.ka o'.kcap o'.keys kb' koff' W (hK.keep hb) (hK'.keep hb)
    have k2 := fun W (hb : Below w.heap.size w W) => vequal 13 (enters_of Tryd.func13 (by kernel_rfl) rfl) o.la o.lcap kids bb off o'.la o'.lcap us bb' off' (kids.map sameT) W (hL.keep hb) (hL'.keep hb) (by simp) (fun k t u f ht hu hf W' hb' => by
      rw [List.getElem?_map, ht] at hf
      obtain rfl := Option.some.inj hf
      exact ih t (List.mem_of_getElem? ht) u W' (((hL.ins k t ht).keep hb).keep hb') (((hL'.ins k u hu).keep hb).keep hb'))
    rw [sameT, val_eq, val_eq]
    simp only [VT.o_mk, VT.kids_mk]
    generalize hD : eqO o.kind o.g (lb 0 o.x) (lb 1 o.x) (lb 2 o.x) (lb 3 o.x) o.bits o.text (o.keys.length : Int) (kids.length : Int) o'.kind o'.g (lb 0 o'.x) (lb 1 o'.x) (lb 2 o'.x) (lb 3 o'.x) o'.bits o'.text (o'.keys.length : Int) (us.length : Int) = D
    cases D with
    | false => exact same_own _ _ _ _ _ _ _ _ _ _ _ _ _ _ _ _ _ _ _ _ _ _ _ _ _ _ _ _ w hD
    | true =>
      cases hk : keysEq o.keys o'.keys with
      | false =>
        rw [hk] at k1
        exact same_keys _ _ _ _ _ _ _ _ _ _ _ _ _ _ _ _ _ _ _ _ _ _ _ _ _ _ _ _ w hD k1
      | true =>
        rw [hk] at k1
        exact same_kids _ _ _ _ _ _ _ _ _ _ _ _ _ _ _ _ _ _ _ _ _ _ _ _ _ _ _ _ w hD k1 _ k2
end Go.Proofs.YtgklokjilfeklaaDoor
