/-
  entrepotlaw6.ValueAsks answers true for every value and any number of a language.
-/
import Derived.Test.YtgklokjilfeklaaGreatDoorR6InT
namespace Go.Proofs.YtgklokjilfeklaaGreatDoor
open Go.RowKit Go.Shelf
open Go.Sort (grow)

set_option maxHeartbeats 1000000 in
theorem asks_told (kd : Int) (g : Bool) (x0 x1 x2 x3 b : Int) (s : ByteArray) (la : Option Addr) (n lc : Nat) (ka : Option Addr) (m kc : Nat) (i : Int) (w : World) (hT : Tb w)
    (k1 : ∀ W, Below w.heap.size w W → Calls Tryz.prog 11 #[V10 kd g x0 x1 x2 x3 b s la n lc ka m kc] W fun e w' => e = .returned (.bool false) ∧ Below W.heap.size W w') :
    Calls Tryz.prog 4 #[V10 kd g x0 x1 x2 x3 b s la n lc ka m kc, .int .i64 i] w fun e w' => e = .returned (.bool true) ∧ Below w.heap.size w w' := by
  have K1 := Lib.hid k1; have HT := Lib.hid hT
  clear k1 hT
  go_enter Tryz.func4, Tryz.ntmps4
  go_wp2_with (first | (go_at_call 11; ((with_reducible refine (K1.out _ (bal (Below.refl _ _) _)).mono ?_); rintro e w1 ⟨rfl, hb1⟩)) | (go_at_call 12; ((with_reducible refine (told6_true _ (tb_on (tb_on HT.out (bal (Below.refl _ _) _)) hb1)).mono ?_); rintro e w2 ⟨rfl, hb2⟩)))
  go_ret
  exact ⟨rfl, btr (btr (bal (Below.refl _ _) _) hb1) hb2⟩
set_option maxRecDepth 100000 in
set_option maxHeartbeats 8000000 in
theorem asks_core (kd : Int) (g : Bool) (x0 x1 x2 x3 b : Int) (s : ByteArray) (la : Option Addr) (n lc : Nat) (ka : Option Addr) (m kc : Nat) (i : Int) (w : World) (hT : Tb w) (z dd nn : Int) (q : Int → Bool)
    (k1 : ∀ W, Below w.heap.size w W → Calls Tryz.prog 11 #[V10 kd g x0 x1 x2 x3 b s la n lc ka m kc] W fun e w' => e = .returned (.bool true) ∧ Below W.heap.size W w')
    (k2 : ∀ W, Below w.heap.size w W → Calls Tryz.prog 15 #[V10 kd g x0 x1 x2 x3 b s la n lc ka m kc] W fun e w' => e = .returned (.int .i64 z) ∧ Below W.heap.size W w')
    (k3 : ∀ W, Below w.heap.size w W → Calls Tryz.prog 16 #[V10 kd g x0 x1 x2 x3 b s la n lc ka m kc] W fun e w' => e = .returned (.int .i64 z) ∧ Below W.heap.size W w')
    (k4 : ∀ W, Below w.heap.size w W → Calls Tryz.prog 17 #[V10 kd g x0 x1 x2 x3 b s la n lc ka m kc] W fun e w' => e = .returned (.int .i64 dd) ∧ Below W.heap.size W w')
    (k5 : ∀ W, Below w.heap.size w W → Calls Tryz.prog 18 #[V10 kd g x0 x1 x2 x3 b s la n lc ka m kc] W fun e w' => e = .returned (.int .i64 dd) ∧ Below W.heap.size W w')
    (k6 : ∀ W, Below w.heap.size w W → Calls Tryz.prog 19 #[V10 kd g x0 x1 x2 x3 b s la n lc ka m kc] W fun e w' => e = .returned (.int .i64 nn) ∧ Below W.heap.size W w')
    (k7 : ∀ W, Below w.heap.size w W → Calls Tryz.prog 20 #[V10 kd g x0 x1 x2 x3 b s la n lc ka m kc] W fun e w' => e = .returned (.int .i64 nn) ∧ Below W.heap.size W w')
    (k8 : ∀ (l : Int) W, Below w.heap.size w W → Calls Tryz.prog 13 #[V10 kd g x0 x1 x2 x3 b s la n lc ka m kc, .int .i64 l] W fun e w' => e = .returned (.bool (q l)) ∧ Below W.heap.size W w')
    (k9 : ∀ (l : Int) W, Below w.heap.size w W → Calls Tryz.prog 14 #[V10 kd g x0 x1 x2 x3 b s la n lc ka m kc, .int .i64 l] W fun e w' => e = .returned (.bool (q l)) ∧ Below W.heap.size W w') :
    Calls Tryz.prog 4 #[V10 kd g x0 x1 x2 x3 b s la n lc ka m kc, .int .i64 i] w fun e w' => e = .returned (.bool true) ∧ Below w.heap.size w w' := by
  have K1 := Lib.hid k1; have K2 := Lib.hid k2; have K3 := Lib.hid k3; have K4 := Lib.hid k4; have K5 := Lib.hid k5; have K6 := Lib.hid k6; have K7 := Lib.hid k7; have K8 := Lib.hid k8; have K9 := Lib.hid k9; have HT := Lib.hid hT
  clear k1 k2 k3 k4 k5 k6 k7 k8 k9 hT
  go_enter Tryz.func4, Tryz.ntmps4
  go_wp2_with fail
  ((with_reducible refine (K1.out _ (bal (Below.refl _ _) _)).mono ?_); rintro e w1 ⟨rfl, hb1⟩)
  have X1 := Lib.hid (And.intro (btr (bal (Below.refl w.heap.size w) _) hb1) (Row10.keep hb1 (Row10.new w (.int .i64 kd) (.bool g) (.int .u64 x0) (.int .u64 x1) (.int .u64 x2) (.int .u64 x3) (.int .u64 b) (.string s) (.slice la n lc) (.slice ka m kc))))
  clear hb1
  go_wp2
  go_loopw [5] (fun i wr => ∃ k : Int, 1 ≤ k ∧ k ≤ 4 ∧ i = .int .i64 k ∧ Hid (Below w.heap.size w wr ∧ Row10 wr w.heap.size (.int .i64 kd) (.bool g) (.int .u64 x0) (.int .u64 x1) (.int .u64 x2) (.int .u64 x3) (.int .u64 b) (.string s) (.slice la n lc) (.slice ka m kc))) (fun i _ => (4 - intOf i).toNat)
  case atStart => exact ⟨1, by omega, by omega, rfl, X1.out⟩
  case round =>
    obtain ⟨k, hk1, hk2, rfl, BW⟩ := hrel
    obtain ⟨p0, p1, p2, p3, p4, p5, p6, p7, p8, p9⟩ := BW.out.2.parts
    clear X1
    by_cases hlt : k ≤ 3
    · go_upto_region 6 with (fail)
      have r0 := cell_regrown p0; have r1 := cell_regrown p1; have r2 := cell_regrown p2; have r3 := cell_regrown p3; have r4 := cell_regrown p4; have r5 := cell_regrown p5; have r6 := cell_regrown p6; have r7 := cell_regrown p7; have r8 := cell_regrown p8; have r9 := cell_regrown p9
      clear p0 p1 p2 p3 p4 p5 p6 p7 p8 p9
      have cq0 := fun (d : Nat) (os : Array Obj) => Calls.regrown_of (w := wr) (d := d) (os := os) (K8.out k _ (btr BW.out.1 (below_regrown wr d os)))
      have cq1 := fun (d : Nat) (os : Array Obj) => Calls.regrown_of (w := wr) (d := d) (os := os) (K9.out k _ (btr BW.out.1 (below_regrown wr d os)))
      refine wp_region_quiet_below (by kernel_rfl) (by kernel_rfl) ?_
      repeat (first | go_big_quiet_step ((first | with_reducible exact cq0 _ _ | with_reducible exact cq1 _ _)) | quiet_step (first | with_reducible exact cq0 _ _ | with_reducible exact cq1 _ _))
      refine wpQuiet_nil ?_
      intro _ hw'
      obtain ⟨⟨dq, osq⟩, hw''⟩ := hw'
      subst hw''
      have hb := below_regrown wr dq osq
      clear r0 r1 r2 r3 r4 r5 r6 r7 r8 r9 cq0 cq1
      have BV : Hid (Below w.heap.size w (grow (redrawn wr dq) osq) ∧ Row10 (grow (redrawn wr dq) osq) w.heap.size (.int .i64 kd) (.bool g) (.int .u64 x0) (.int .u64 x1) (.int .u64 x2) (.int .u64 x3) (.int .u64 b) (.string s) (.slice la n lc) (.slice ka m kc)) := ⟨btr BW.out.1 hb, BW.out.2.keep hb⟩
      generalize grow (redrawn wr dq) osq = w9 at *
      clear hb
      go_wp2
      go_roundw
      case rel => exact ⟨k + 1, by omega, by omega, rfl, BV⟩
      case measure => simp [intOf]; omega
    · go_upto_region 8 with (fail)
      have r0 := cell_regrown p0; have r1 := cell_regrown p1; have r2 := cell_regrown p2; have r3 := cell_regrown p3; have r4 := cell_regrown p4; have r5 := cell_regrown p5; have r6 := cell_regrown p6; have r7 := cell_regrown p7; have r8 := cell_regrown p8; have r9 := cell_regrown p9
      clear p0 p1 p2 p3 p4 p5 p6 p7 p8 p9
      have cq0 := fun (d : Nat) (os : Array Obj) => Calls.regrown_of (w := wr) (d := d) (os := os) (told6_true _ (tb_on HT.out (btr BW.out.1 (below_regrown wr d os))))
      have cq1 := fun (d : Nat) (os : Array Obj) => Calls.regrown_of (w := wr) (d := d) (os := os) (K2.out _ (btr BW.out.1 (below_regrown wr d os)))
      have cq2 := fun (d : Nat) (os : Array Obj) => Calls.regrown_of (w := wr) (d := d) (os := os) (K3.out _ (btr BW.out.1 (below_regrown wr d os)))
      have cq3 := fun (d : Nat) (os : Array Obj) => Calls.regrown_of (w := wr) (d := d) (os := os) (K4.out _ (btr BW.out.1 (below_regrown wr d os)))
      have cq4 := fun (d : Nat) (os : Array Obj) => Calls.regrown_of (w := wr) (d := d) (os := os) (K5.out _ (btr BW.out.1 (below_regrown wr d os)))
      have cq5 := fun (d : Nat) (os : Array Obj) => Calls.regrown_of (w := wr) (d := d) (os := os) (K6.out _ (btr BW.out.1 (below_regrown wr d os)))
      have cq6 := fun (d : Nat) (os : Array Obj) => Calls.regrown_of (w := wr) (d := d) (os := os) (K7.out _ (btr BW.out.1 (below_regrown wr d os)))
      have cq7 := fun (d : Nat) (os : Array Obj) => Calls.regrown_of (w := wr) (d := d) (os := os) (K8.out i _ (btr BW.out.1 (below_regrown wr d os)))
      have cq8 := fun (d : Nat) (os : Array Obj) => Calls.regrown_of (w := wr) (d := d) (os := os) (K9.out i _ (btr BW.out.1 (below_regrown wr d os)))
      refine wp_region_quiet_below (by kernel_rfl) (by kernel_rfl) ?_
      repeat (first | go_big_quiet_step ((first | with_reducible exact cq0 _ _ | with_reducible exact cq1 _ _ | with_reducible exact cq2 _ _ | with_reducible exact cq3 _ _ | with_reducible exact cq4 _ _ | with_reducible exact cq5 _ _ | with_reducible exact cq6 _ _ | with_reducible exact cq7 _ _ | with_reducible exact cq8 _ _)) | quiet_step (first | with_reducible exact cq0 _ _ | with_reducible exact cq1 _ _ | with_reducible exact cq2 _ _ | with_reducible exact cq3 _ _ | with_reducible exact cq4 _ _ | with_reducible exact cq5 _ _ | with_reducible exact cq6 _ _ | with_reducible exact cq7 _ _ | with_reducible exact cq8 _ _))
      refine wpQuiet_nil ?_
      intro _ hw'
      obtain ⟨⟨dq, osq⟩, hw''⟩ := hw'
      subst hw''
      have hb := below_regrown wr dq osq
      clear r0 r1 r2 r3 r4 r5 r6 r7 r8 r9 cq0 cq1 cq2 cq3 cq4 cq5 cq6 cq7 cq8
      have BV : Hid (Below w.heap.size w (grow (redrawn wr dq) osq) ∧ Row10 (grow (redrawn wr dq) osq) w.heap.size (.int .i64 kd) (.bool g) (.int .u64 x0) (.int .u64 x1) (.int .u64 x2) (.int .u64 x3) (.int .u64 b) (.string s) (.slice la n lc) (.slice ka m kc)) := ⟨btr BW.out.1 hb, BW.out.2.keep hb⟩
      generalize grow (redrawn wr dq) osq = w9 at *
      clear hb
      go_wp2
      go_ret
      exact ⟨rfl, BV.out.1⟩
/-- The law, for every value and any number. -/
theorem asks_any (T : VT) (i : Int) (w : World) (hI : T.In w) (hT : Tb w) :
    Calls Tryz.prog 4 #[T.val, .int .i64 i] w fun e w' => e = .returned (.bool true) ∧ Below w.heap.size w w' := by
  have k1 := fun W (hb : Below w.heap.size w W) => vfew T W (hI.keep hb)
  cases hf : fewOk T with
  | false =>
    rw [hf] at k1
    obtain ⟨o, kids⟩ := T
    exact asks_told _ _ _ _ _ _ _ _ _ _ _ _ _ _ i w hT k1
  | true =>
    rw [hf] at k1
    obtain ⟨hQ, hn, hd, hE⟩ := few_all hf hI hT
    have k2 := fun W (hb : Below w.heap.size w W) => vmay T (by omega) W (hQ.keep hb)
    have k3 := fun W (hb : Below w.heap.size w W) => r6may_few T W (hQ.keep hb) hn hd hE
    have k4 := fun W (hb : Below w.heap.size w W) => vdepth T (by omega) W (hI.keep hb)
    have k5 := fun W (hb : Below w.heap.size w W) => rdepth T (by omega) W (hI.keep hb)
    have k6 := fun W (hb : Below w.heap.size w W) => vnodes T (by omega) W (hI.keep hb)
    have k7 := fun W (hb : Below w.heap.size w W) => rnodes T (by omega) W (hI.keep hb)
    have k8 := fun (l : Int) W (hb : Below w.heap.size w W) => vin T (by omega) l W (hQ.keep hb)
    have k9 := fun (l : Int) W (hb : Below w.heap.size w W) => rin_few T l W (hQ.keep hb) hn hd hE
    obtain ⟨o, kids⟩ := T
    exact asks_core _ _ _ _ _ _ _ _ _ _ _ _ _ _ i w hT _ _ _ _ k1 k2 k3 k4 k5 k6 k7 k8 k9
end Go.Proofs.YtgklokjilfeklaaGreatDoor
