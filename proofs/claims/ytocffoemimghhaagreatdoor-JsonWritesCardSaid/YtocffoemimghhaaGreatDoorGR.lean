/-
  R6Own R6Map R6May R6Long, one behind the other: a claim holds at most 60 files.
-/
import Derived.Test.YtocffoemimghhaaGreatDoorValOwn
import Derived.Test.YtocffoemimghhaaGreatDoorGB
import Derived.Lib.QuietBelow
import Derived.BigQuiet
import Derived.Test.YtocffoemimghhaaGreatDoorValFew
import Derived.Test.YtocffoemimghhaaGreatDoorValLoops
section
namespace Go.Proofs.YtocffoemimghhaaGreatDoor
open Go.RowKit Go.Shelf
open Go.Sort (grow)
attribute [local go_sem ↓] eql_nat neq_nat eql_int5 neq_int5

theorem r6may_pos (x0 x1 x2 x3 : Int) (w : World) :
    Calls Tryz.prog 69 #[.agg #[.bool false, .int .u64 x0, .int .u64 x1, .int .u64 x2, .int .u64 x3]] w fun e w' => e = .returned (.bool true) ∧ Below w.heap.size w w' := by
  go_enter Tryz.func69, Tryz.ntmps69
  go_wp2
  go_ret
  exact ⟨rfl, bal (Below.refl _ _) _⟩
theorem r6may_neg (x0 x1 x2 x3 : Int) (w : World) :
    Calls Tryz.prog 69 #[.agg #[.bool true, .int .u64 x0, .int .u64 x1, .int .u64 x2, .int .u64 x3]] w fun e w' => e = .returned (.bool (!eq4 x0 x1 x2 x3 0 0 0 0)) ∧ Below w.heap.size w w' := by
  go_enter Tryz.func69, Tryz.ntmps69
  go_wp2
  go_ret
  exact ⟨rfl, bal (Below.refl _ _) _⟩
theorem r6may (g : Bool) (x : Nat) (w : World) :
    Calls Tryz.prog 69 #[.agg #[.bool g, .int .u64 (lb 0 x), .int .u64 (lb 1 x), .int .u64 (lb 2 x), .int .u64 (lb 3 x)]] w fun e w' => e = .returned (.bool (okI g x)) ∧ Below w.heap.size w w' := by
  cases g with
  | false => rw [show okI false x = true by simp [okI, eq5]]; exact r6may_pos _ _ _ _ w
  | true => rw [show okI true x = !eq4 (lb 0 x) (lb 1 x) (lb 2 x) (lb 3 x) 0 0 0 0 by simp [okI, eq5]]; exact r6may_neg _ _ _ _ w
theorem eq_ret {e : Ending} {b c : Bool} {P : Prop} (h : e = .returned (.bool b)) (hb : b = c) (hp : P) : e = .returned (.bool c) ∧ P := ⟨h.trans (ret_bool hb), hp⟩

set_option maxRecDepth 200000 in
set_option maxHeartbeats 4000000 in
theorem rown_k1 (g : Bool) (x0 x1 x2 x3 b : Int) (s : ByteArray) (la : Option Addr) (n lc : Nat) (ka : Option Addr) (m kc : Nat) (w : World) :
    Calls Tryz.prog 65 #[V10 1 g x0 x1 x2 x3 b s la n lc ka m kc] w fun e w' => e = .returned (.bool (eq5 g x0 x1 x2 x3 false 0 0 0 0 && ((b == 0) && (s.toList.isEmpty && (((n : Int) == 0) && ((m : Int) == 0)))))) ∧ Below w.heap.size w w' := by
  go_enter Tryz.func65, Tryz.ntmps65
  go_wp2
  all_goals
    go_ret
    refine eq_ret rfl ?_ (bal (Below.refl _ _) _)
    first | rfl | (simp_all; done) | (simp_all; intros; omega)
set_option maxRecDepth 200000 in
set_option maxHeartbeats 4000000 in
theorem rown_k2 (g : Bool) (x0 x1 x2 x3 b : Int) (s : ByteArray) (la : Option Addr) (n lc : Nat) (ka : Option Addr) (m kc : Nat) (hb0 : 0 ≤ b) (hb1 : b ≤ 18446744073709551615) (w : World) :
    Calls Tryz.prog 65 #[V10 2 g x0 x1 x2 x3 b s la n lc ka m kc] w fun e w' => e = .returned (.bool (eq5 g x0 x1 x2 x3 false 0 0 0 0 && (decide (b ≤ 1) && (s.toList.isEmpty && (((n : Int) == 0) && ((m : Int) == 0)))))) ∧ Below w.heap.size w w' := by
  go_enter Tryz.func65, Tryz.ntmps65
  go_wp2
  all_goals
    go_ret
    refine eq_ret rfl ?_ (bal (Below.refl _ _) _)
    first | rfl | (simp_all; done) | (simp_all; intros; omega)
set_option maxRecDepth 200000 in
set_option maxHeartbeats 4000000 in
theorem rown_k7 (g : Bool) (x0 x1 x2 x3 b : Int) (s : ByteArray) (la : Option Addr) (n lc : Nat) (ka : Option Addr) (m kc : Nat) (w : World) :
    Calls Tryz.prog 65 #[V10 7 g x0 x1 x2 x3 b s la n lc ka m kc] w fun e w' => e = .returned (.bool (eq5 g x0 x1 x2 x3 false 0 0 0 0 && ((b == 0) && (s.toList.isEmpty && ((m : Int) == 0))))) ∧ Below w.heap.size w w' := by
  go_enter Tryz.func65, Tryz.ntmps65
  go_wp2
  all_goals
    go_ret
    refine eq_ret rfl ?_ (bal (Below.refl _ _) _)
    first | rfl | (simp_all; done) | (simp_all; intros; omega)
set_option maxRecDepth 200000 in
set_option maxHeartbeats 4000000 in
theorem rown_k3 (g : Bool) (x0 x1 x2 x3 b : Int) (s : ByteArray) (la : Option Addr) (n lc : Nat) (ka : Option Addr) (m kc : Nat) (w : World) (q : Bool) (hc : ∀ W, Below w.heap.size w W → Calls Tryz.prog 69 #[.agg #[.bool g, .int .u64 x0, .int .u64 x1, .int .u64 x2, .int .u64 x3]] W fun e w' => e = .returned (.bool q) ∧ Below W.heap.size W w') :
    Calls Tryz.prog 65 #[V10 3 g x0 x1 x2 x3 b s la n lc ka m kc] w fun e w' => e = .returned (.bool (q && ((b == 0) && (s.toList.isEmpty && (((n : Int) == 0) && ((m : Int) == 0)))))) ∧ Below w.heap.size w w' := by
  have HC := Lib.hid hc; clear hc
  go_enter Tryz.func65, Tryz.ntmps65
  go_wp2_with fail
  all_goals
    first
    | ((with_reducible refine (HC.out _ (bal (Below.refl _ _) _)).mono ?_); rintro e w1 ⟨rfl, hb1⟩
       have X1 := Row10.keep hb1 (Row10.new w (.int .i64 3) (.bool g) (.int .u64 x0) (.int .u64 x1) (.int .u64 x2) (.int .u64 x3) (.int .u64 b) (.string s) (.slice la n lc) (.slice ka m kc))
       have B1 := Lib.hid (btr (bal (Below.refl w.heap.size w) _) hb1)
       obtain ⟨q0, q1, q2, q3, q4, q5, q6, q7, q8, q9⟩ := X1.parts
       clear hb1 X1
       go_wp2
       all_goals
         go_ret
         refine eq_ret rfl ?_ B1.out
         clear q0 q1 q2 q3 q4 q5 q6 q7 q8 q9
         first | rfl | (simp_all; done) | (simp_all; intros; omega))
    | (go_ret
       refine eq_ret rfl ?_ (bal (Below.refl _ _) _)
       first | rfl | (simp_all; done) | (simp_all; intros; omega))
set_option maxRecDepth 200000 in
set_option maxHeartbeats 4000000 in
theorem rown_k4 (g : Bool) (x0 x1 x2 x3 b : Int) (s : ByteArray) (la : Option Addr) (n lc : Nat) (ka : Option Addr) (m kc : Nat) (w : World) (q : Bool) (hc : ∀ W, Below w.heap.size w W → Calls Tryz.prog 103 #[.int .u64 b] W fun e w' => e = .returned (.bool q) ∧ Below W.heap.size W w') :
    Calls Tryz.prog 65 #[V10 4 g x0 x1 x2 x3 b s la n lc ka m kc] w fun e w' => e = .returned (.bool (eq5 g x0 x1 x2 x3 false 0 0 0 0 && (q && (s.toList.isEmpty && (((n : Int) == 0) && ((m : Int) == 0)))))) ∧ Below w.heap.size w w' := by
  have HC := Lib.hid hc; clear hc
  go_enter Tryz.func65, Tryz.ntmps65
  go_wp2_with fail
  all_goals
    first
    | ((with_reducible refine (HC.out _ (bal (Below.refl _ _) _)).mono ?_); rintro e w1 ⟨rfl, hb1⟩
       have X1 := Row10.keep hb1 (Row10.new w (.int .i64 4) (.bool g) (.int .u64 x0) (.int .u64 x1) (.int .u64 x2) (.int .u64 x3) (.int .u64 b) (.string s) (.slice la n lc) (.slice ka m kc))
       have B1 := Lib.hid (btr (bal (Below.refl w.heap.size w) _) hb1)
       obtain ⟨q0, q1, q2, q3, q4, q5, q6, q7, q8, q9⟩ := X1.parts
       clear hb1 X1
       go_wp2
       all_goals
         go_ret
         refine eq_ret rfl ?_ B1.out
         clear q0 q1 q2 q3 q4 q5 q6 q7 q8 q9
         first | rfl | (simp_all; done) | (simp_all; intros; omega))
    | (go_ret
       refine eq_ret rfl ?_ (bal (Below.refl _ _) _)
       first | rfl | (simp_all; done) | (simp_all; intros; omega))
set_option maxRecDepth 200000 in
set_option maxHeartbeats 4000000 in
theorem rown_k5 (g : Bool) (x0 x1 x2 x3 b : Int) (s : ByteArray) (la : Option Addr) (n lc : Nat) (ka : Option Addr) (m kc : Nat) (w : World) (q : Bool) (hc : ∀ W, Below w.heap.size w W → Calls Tryz.prog 104 #[.string s] W fun e w' => e = .returned (.bool q) ∧ Below W.heap.size W w') :
    Calls Tryz.prog 65 #[V10 5 g x0 x1 x2 x3 b s la n lc ka m kc] w fun e w' => e = .returned (.bool (eq5 g x0 x1 x2 x3 false 0 0 0 0 && ((b == 0) && (((n : Int) == 0) && (((m : Int) == 0) && q))))) ∧ Below w.heap.size w w' := by
  have HC := Lib.hid hc; clear hc
  go_enter Tryz.func65, Tryz.ntmps65
  go_wp2_with (go_at_call 104; ((with_reducible refine (HC.out _ (bal (Below.refl _ _) _)).mono ?_); rintro e w1 ⟨rfl, hb1⟩))
  all_goals
    go_ret
    refine eq_ret rfl ?_ (by first | exact btr (bal (Below.refl _ _) _) (by assumption) | exact bal (Below.refl _ _) _)
    first | rfl | (simp_all; done) | (simp_all; intros; omega)
set_option maxRecDepth 200000 in
set_option maxHeartbeats 4000000 in
theorem rown_k6 (g : Bool) (x0 x1 x2 x3 b : Int) (s : ByteArray) (la : Option Addr) (n lc : Nat) (ka : Option Addr) (m kc : Nat) (w : World) :
    Calls Tryz.prog 65 #[V10 6 g x0 x1 x2 x3 b s la n lc ka m kc] w fun e w' => e = .returned (.bool (eq5 g x0 x1 x2 x3 false 0 0 0 0 && ((b == 0) && (((n : Int) == 0) && ((m : Int) == 0))))) ∧ Below w.heap.size w w' := by
  go_enter Tryz.func65, Tryz.ntmps65
  go_wp2
  all_goals
    go_ret
    refine eq_ret rfl ?_ (bal (Below.refl _ _) _)
    first | rfl | (simp_all; done) | (simp_all; intros; omega)
set_option maxRecDepth 200000 in
set_option maxHeartbeats 4000000 in
theorem rown_none (g : Bool) (x0 x1 x2 x3 b : Int) (s : ByteArray) (la : Option Addr) (n lc : Nat) (ka : Option Addr) (m kc : Nat) (kd : Int) (h1 : (kd == 1) = false) (h2 : (kd == 2) = false) (h3 : (kd == 3) = false) (h4 : (kd == 4) = false) (h5 : (kd == 5) = false) (h6 : (kd == 6) = false) (h7 : (kd == 7) = false) (h8 : (kd == 8) = false) (w : World) :
    Calls Tryz.prog 65 #[V10 kd g x0 x1 x2 x3 b s la n lc ka m kc] w fun e w' => e = .returned (.bool (false)) ∧ Below w.heap.size w w' := by
  go_enter Tryz.func65, Tryz.ntmps65
  go_wp2
  all_goals
    go_ret
    refine eq_ret rfl ?_ (bal (Below.refl _ _) _)
    first | rfl | (simp_all; done) | (simp_all; intros; omega)
end Go.Proofs.YtocffoemimghhaaGreatDoor
end
section
namespace Go.Proofs.YtocffoemimghhaaGreatDoor
open Go.RowKit Go.Shelf
open Go.Sort (grow)
attribute [local go_sem ↓] eql_nat neq_nat eql_int5 neq_int5

theorem rvalid_below (s : ByteArray) (hz : s.size ≤ 140737488351232) (q : Bool) (hq : uval s.data.toList = q) (w : World) :
    Calls Tryz.prog 104 #[.string s] w fun e w' => e = .returned (.bool q) ∧ Below w.heap.size w w' := by
  refine (rvalid_any s hz w).mono ?_
  rintro e w' ⟨rfl, rfl⟩
  exact ⟨ret_bool hq, Below.refl _ _⟩

set_option maxRecDepth 200000 in
set_option maxHeartbeats 8000000 in
theorem rown_k8 (g : Bool) (x0 x1 x2 x3 b : Int) (s : ByteArray) (la : Option Addr) (n lc : Nat) (ka : Option Addr) (kc : Nat) (keys : List ByteArray) (kb koff : Nat) (w : World) (hK : KeysL w ka keys kb koff) (hz : ∀ s ∈ keys, s.size ≤ 140737488351232) :
    Calls Tryz.prog 65 #[V10 8 g x0 x1 x2 x3 b s la n lc ka keys.length kc] w fun e w' => e = .returned (.bool (namesB keys && (eq5 g x0 x1 x2 x3 false 0 0 0 0 && ((b == 0) && (s.toList.isEmpty && ((keys.length : Int) == (n : Int))))))) ∧ Below w.heap.size w w' := by
  have hn := hK.len
  have HK := Lib.hid hK; have HS := Lib.hid hz
  clear hK hz
  go_enter Tryz.func65, Tryz.ntmps65
  go_wp2
  go_loopw [4] (fun i wr => ∃ k : Nat, k ≤ keys.length ∧ i = .int .i64 k ∧ Hid (Below w.heap.size w wr ∧ Row10 wr w.heap.size (.int .i64 8) (.bool g) (.int .u64 x0) (.int .u64 x1) (.int .u64 x2) (.int .u64 x3) (.int .u64 b) (.string s) (.slice la n lc) (.slice ka keys.length kc)) ∧ Hid (∀ j, j < k → keyOk keys j = true)) (fun i _ => keys.length - (intOf i).toNat)
  case atStart => exact ⟨0, Nat.zero_le _, rfl, (show Hid _ from ⟨bal (Below.refl _ _) _, Row10.new _ _ _ _ _ _ _ _ _ _ _⟩), (show Hid _ from fun j hj => absurd hj (Nat.not_lt_zero _))⟩
  case round =>
    obtain ⟨k, hk, rfl, BW, AN⟩ := hrel
    obtain ⟨p0, p1, p2, p3, p4, p5, p6, p7, p8, p9⟩ := BW.out.2.parts
    by_cases hlt : k < keys.length
    · obtain ⟨t, ht, hm⟩ := key_at hlt
      have hr := cell_keep BW.out.1 (HK.out.cells k t ht)
      have hlt2 : (k : Int) < (keys.length : Int) := by omega
      obtain rfl : ka = some ⟨kb, koff, none⟩ := HK.out.ka (by omega)
      have r9 := cell_regrown p9
      have rk := cell_regrown hr
      clear p0 p1 p2 p3 p4 p5 p6 p7 p8
      cases hq : uval t.data.toList with
      | false =>
        have HF := Lib.hid (namesB_not (keyOk_bad ht hq) hlt)
        have cq0 := fun (d : Nat) (os : Array Obj) => Calls.regrown_of (w := wr) (d := d) (os := os) (rvalid_below t (HS.out t hm) false hq _)
        clear hq ht hm
        go_upto_region 20 with (fail)
        refine wp_region_quiet_below (by kernel_rfl) (by kernel_rfl) ?_
        repeat (first | go_big_quiet_step ((with_reducible exact cq0 _ _)) | quiet_step (with_reducible exact cq0 _ _))
        refine wpQuiet_nil ?_
        intro _ hw'
        obtain ⟨⟨dq, osq⟩, hw''⟩ := hw'
        subst hw''
        clear r9 rk cq0
        have hb := Lib.hid (btr BW.out.1 (below_regrown wr dq osq))
        generalize grow (redrawn wr dq) osq = w2 at *
        go_wp2
        go_ret
        exact ⟨ret_bool (by rw [HF.out]; rfl), hb.out⟩
      | true =>
        have cq0 := fun (d : Nat) (os : Array Obj) => Calls.regrown_of (w := wr) (d := d) (os := os) (rvalid_below t (HS.out t hm) true hq _)
        cases k with
        | zero =>
          have HO := Lib.hid (keyOk_zero ht hq)
          rw [Nat.add_zero] at rk
          clear hq ht hm
          go_upto_region 20 with (fail)
          refine wp_region_quiet_below (by kernel_rfl) (by kernel_rfl) ?_
          repeat (first | go_big_quiet_step ((with_reducible exact cq0 _ _)) | quiet_step (with_reducible exact cq0 _ _))
          refine wpQuiet_nil ?_
          intro _ hw'
          obtain ⟨⟨dq, osq⟩, hw''⟩ := hw'
          subst hw''
          have hb := below_regrown wr dq osq
          clear r9 rk cq0
          have BV : Hid (Below w.heap.size w (grow (redrawn wr dq) osq) ∧ Row10 (grow (redrawn wr dq) osq) w.heap.size (.int .i64 8) (.bool g) (.int .u64 x0) (.int .u64 x1) (.int .u64 x2) (.int .u64 x3) (.int .u64 b) (.string s) (.slice la n lc) (.slice (some ⟨kb, koff, none⟩) keys.length kc)) := ⟨btr BW.out.1 hb, BW.out.2.keep hb⟩
          generalize grow (redrawn wr dq) osq = w2 at *
          clear hb
          go_wp2
          go_roundw
          case rel => exact ⟨1, by omega, rfl, BV, all_one HO.out⟩
          case measure => simp [intOf]; omega
        | succ j =>
          obtain ⟨r, hr0, _⟩ := key_at (show j < keys.length by omega)
          have rj := cell_regrown (cell_keep BW.out.1 (HK.out.cells j r hr0))
          have hj0 : decide ((0 : Int) < (j : Int) + 1) = true := decide_eq_true (by omega)
          have hj1 : (j : Int) < (keys.length : Int) := by omega
          cases hl : leS t r with
          | true =>
            have HF := Lib.hid (namesB_not (keyOk_succ ht hr0 hq hl) hlt)
            unfold leS at hl
            clear hq ht hm hr0
            go_upto_region 20 with (fail)
            refine wp_region_quiet_below (by kernel_rfl) (by kernel_rfl) ?_
            repeat (first | go_big_quiet_step ((with_reducible exact cq0 _ _)) | quiet_step (with_reducible exact cq0 _ _))
            refine wpQuiet_nil ?_
            intro _ hw'
            obtain ⟨⟨dq, osq⟩, hw''⟩ := hw'
            subst hw''
            have hb := below_regrown wr dq osq
            clear r9 rk rj cq0
            have BV : Hid (Below w.heap.size w (grow (redrawn wr dq) osq) ∧ Row10 (grow (redrawn wr dq) osq) w.heap.size (.int .i64 8) (.bool g) (.int .u64 x0) (.int .u64 x1) (.int .u64 x2) (.int .u64 x3) (.int .u64 b) (.string s) (.slice la n lc) (.slice (some ⟨kb, koff, none⟩) keys.length kc)) := ⟨btr BW.out.1 hb, BW.out.2.keep hb⟩
            generalize grow (redrawn wr dq) osq = w2 at *
            clear hb
            go_wp2
            go_ret
            exact ⟨ret_bool (by rw [HF.out]; rfl), BV.out.1⟩
          | false =>
            have HO := Lib.hid (keyOk_succ ht hr0 hq hl)
            unfold leS at hl
            clear hq ht hm hr0
            go_upto_region 20 with (fail)
            refine wp_region_quiet_below (by kernel_rfl) (by kernel_rfl) ?_
            repeat (first | go_big_quiet_step ((with_reducible exact cq0 _ _)) | quiet_step (with_reducible exact cq0 _ _))
            refine wpQuiet_nil ?_
            intro _ hw'
            obtain ⟨⟨dq, osq⟩, hw''⟩ := hw'
            subst hw''
            have hb := below_regrown wr dq osq
            clear r9 rk rj cq0
            have BV : Hid (Below w.heap.size w (grow (redrawn wr dq) osq) ∧ Row10 (grow (redrawn wr dq) osq) w.heap.size (.int .i64 8) (.bool g) (.int .u64 x0) (.int .u64 x1) (.int .u64 x2) (.int .u64 x3) (.int .u64 b) (.string s) (.slice la n lc) (.slice (some ⟨kb, koff, none⟩) keys.length kc)) := ⟨btr BW.out.1 hb, BW.out.2.keep hb⟩
            generalize grow (redrawn wr dq) osq = w2 at *
            clear hb
            go_wp2
            go_roundw
            case rel => exact ⟨j + 1 + 1, by omega, by go_num, BV, (show Hid _ from fun i hi => by
                by_cases e : i = j + 1
                · subst e; exact HO.out
                · exact AN.out i (by omega))⟩
            case measure => simp [intOf]; omega
    · have hge : ¬ (k : Int) < (keys.length : Int) := by omega
      have HF := Lib.hid (namesB_all AN.out (by omega))
      clear AN
      go_wp2
      all_goals
        go_ret
        refine eq_ret rfl ?_ BW.out.1
        have hF := HF.out
        clear p0 p1 p2 p3 p4 p5 p6 p7 p8 p9
        first | rfl | (simp_all; done) | (simp_all; intros; omega)
end Go.Proofs.YtocffoemimghhaaGreatDoor
end
section
namespace Go.Proofs.YtocffoemimghhaaGreatDoor
open Go.RowKit Go.Shelf

theorem txt_empty (s : ByteArray) : (s.toList == (⟨#[]⟩ : ByteArray).toList) = s.toList.isEmpty := by
  rw [show (⟨#[]⟩ : ByteArray).toList = [] from (Lib.toList_data _).trans rfl]
  cases s.toList <;> rfl
theorem beq_self_int (x : Int) : (x == x) = true := beq_self_eq_true x
theorem le_one (b : Int) : decide (b ≤ 1) = !decide (1 < b) := by rw [Bool.eq_iff_iff]; simp
theorem len_beq (m n : Nat) : ((m : Int) == (n : Int)) = decide (m = n) := by rw [Bool.eq_iff_iff]; simp; omega
/-- own, of every value. -/
theorem rown_any (T : VT) (w : World) (hQ : Qv T w) : Calls Tryz.prog 65 #[T.val] w fun e w' => e = .returned (.bool (ownB T.o T.kids.length)) ∧ Below w.heap.size w w' := by
  obtain ⟨o, kids⟩ := T
  obtain ⟨kb, koff, hK⟩ := hQ.ins.keys'
  obtain ⟨hs, hks⟩ := hQ.small.own
  have hw := hQ.ins.wf
  obtain ⟨_, _, ⟨hb0, hb1⟩, _, _⟩ := hw
  rw [val_eq]
  obtain ⟨kd, g, x, b, s, la, lc, ka, kc, ks⟩ := o
  simp only [VT.o_mk, VT.kids_mk] at hs hks hK hb0 hb1 ⊢
  generalize hn : kids.length = n
  clear hn
  have fin : ∀ {q r : Bool} {P : Prop} {e : Ending}, e = .returned (.bool q) ∧ P → q = r → e = .returned (.bool r) ∧ P := fun h1 h2 => ⟨h1.1.trans (ret_bool h2), h1.2⟩
  by_cases h1 : kd = 1
  · subst h1
    refine (rown_k1 _ _ _ _ _ _ s _ n _ _ _ _ w).mono fun e w' h => fin h ?_
    show _ = (eqO 1 g _ _ _ _ b s _ _ 1 false 0 0 0 0 0 ⟨#[]⟩ ((0 : Nat) : Int) ((0 : Nat) : Int) && true)
    unfold eqO
    rw [txt_empty, beq_self_int]
    cases eq5 g (lb 0 x) (lb 1 x) (lb 2 x) (lb 3 x) false 0 0 0 0 <;> cases (b == 0) <;> cases s.toList.isEmpty <;> cases ((n : Int) == 0) <;> simp
  by_cases h2 : kd = 2
  · subst h2
    refine (rown_k2 _ _ _ _ _ _ s _ n _ _ _ _ hb0 hb1 w).mono fun e w' h => fin h ?_
    show _ = (eqO 2 g _ _ _ _ b s _ _ 2 false 0 0 0 0 b ⟨#[]⟩ ((0 : Nat) : Int) ((0 : Nat) : Int) && !decide (1 < b))
    unfold eqO
    rw [txt_empty, beq_self_int, beq_self_int, le_one]
    cases eq5 g (lb 0 x) (lb 1 x) (lb 2 x) (lb 3 x) false 0 0 0 0 <;> cases (decide (1 < b)) <;> cases s.toList.isEmpty <;> cases ((n : Int) == 0) <;> simp
  by_cases h3 : kd = 3
  · subst h3
    refine (rown_k3 _ _ _ _ _ b s _ n _ _ _ _ w _ (fun W _ => r6may g x W)).mono fun e w' h => fin h ?_
    show _ = (eqO 3 g _ _ _ _ b s _ _ 3 g (lb 0 x) (lb 1 x) (lb 2 x) (lb 3 x) 0 ⟨#[]⟩ ((0 : Nat) : Int) ((0 : Nat) : Int) && okI g x)
    unfold eqO
    rw [txt_empty, beq_self_int, show eq5 g (lb 0 x) (lb 1 x) (lb 2 x) (lb 3 x) g (lb 0 x) (lb 1 x) (lb 2 x) (lb 3 x) = true by simp [eq5, eq4]]
    cases okI g x <;> cases (b == 0) <;> cases s.toList.isEmpty <;> cases ((n : Int) == 0) <;> simp
  by_cases h4 : kd = 4
  · subst h4
    have e4 : b = ((b.toNat : Nat) : Int) := by omega
    refine (rown_k4 _ _ _ _ _ b s _ n _ _ _ _ w (mayF b.toNat) (fun W _ => by
      have := rmayf b.toNat (by omega) W
      rw [← e4] at this
      exact this)).mono fun e w' h => fin h ?_
    show _ = (eqO 4 g _ _ _ _ b s _ _ 4 false 0 0 0 0 b ⟨#[]⟩ ((0 : Nat) : Int) ((0 : Nat) : Int) && mayF b.toNat)
    unfold eqO
    rw [txt_empty, beq_self_int, beq_self_int]
    cases eq5 g (lb 0 x) (lb 1 x) (lb 2 x) (lb 3 x) false 0 0 0 0 <;> cases mayF b.toNat <;> cases s.toList.isEmpty <;> cases ((n : Int) == 0) <;> simp
  by_cases h5 : kd = 5
  · subst h5
    refine (rown_k5 _ _ _ _ _ b s _ n _ _ _ _ w _ (fun W _ => rvalid_below s (by omega) _ rfl W)).mono fun e w' h => fin h ?_
    show _ = (eqO 5 g _ _ _ _ b s _ _ 5 false 0 0 0 0 0 s ((0 : Nat) : Int) ((0 : Nat) : Int) && uval s.data.toList)
    unfold eqO
    rw [beq_self_int, show (s.toList == s.toList) = true from beq_self_eq_true _]
    cases eq5 g (lb 0 x) (lb 1 x) (lb 2 x) (lb 3 x) false 0 0 0 0 <;> cases (b == 0) <;> cases uval s.data.toList <;> cases ((n : Int) == 0) <;> simp
  by_cases h6 : kd = 6
  · subst h6
    refine (rown_k6 _ _ _ _ _ b s _ n _ _ _ _ w).mono fun e w' h => fin h ?_
    show _ = (eqO 6 g _ _ _ _ b s _ _ 6 false 0 0 0 0 0 s ((0 : Nat) : Int) ((0 : Nat) : Int) && true)
    unfold eqO
    rw [beq_self_int, show (s.toList == s.toList) = true from beq_self_eq_true _]
    cases eq5 g (lb 0 x) (lb 1 x) (lb 2 x) (lb 3 x) false 0 0 0 0 <;> cases (b == 0) <;> cases ((n : Int) == 0) <;> simp
  by_cases h7 : kd = 7
  · subst h7
    refine (rown_k7 _ _ _ _ _ b s _ n _ _ _ _ w).mono fun e w' h => fin h ?_
    show _ = (eqO 7 g _ _ _ _ b s _ _ 7 false 0 0 0 0 0 ⟨#[]⟩ ((0 : Nat) : Int) (n : Int) && true)
    unfold eqO
    rw [beq_self_int, beq_self_int, txt_empty]
    cases eq5 g (lb 0 x) (lb 1 x) (lb 2 x) (lb 3 x) false 0 0 0 0 <;> cases (b == 0) <;> cases s.toList.isEmpty <;> simp
  by_cases h8 : kd = 8
  · subst h8
    refine (rown_k8 _ _ _ _ _ b s _ n _ _ _ ks kb koff w hK (fun t ht => by have := hks t ht; omega)).mono fun e w' h => fin h ?_
    show _ = (eqO 8 g _ _ _ _ b s _ _ 8 false 0 0 0 0 0 ⟨#[]⟩ (ks.length : Int) (n : Int) && (decide (ks.length = n) && namesB ks))
    unfold eqO
    rw [beq_self_int, beq_self_int, beq_self_int, txt_empty, len_beq]
    cases eq5 g (lb 0 x) (lb 1 x) (lb 2 x) (lb 3 x) false 0 0 0 0 <;> cases (b == 0) <;> cases s.toList.isEmpty <;> cases namesB ks <;> simp
  have hR : ownB ⟨kd, g, x, b, s, la, lc, ka, kc, ks⟩ n = false := by
    unfold ownB restB
    simp only
    rw [if_neg (by omega), if_neg h2, if_neg h3, if_neg h4, if_neg h5, if_neg h8, Bool.and_false]
  rw [hR]
  exact rown_none _ _ _ _ _ _ _ _ _ _ _ _ _ kd (beq_eq_false_iff_ne.2 h1) (beq_eq_false_iff_ne.2 h2) (beq_eq_false_iff_ne.2 h3) (beq_eq_false_iff_ne.2 h4) (beq_eq_false_iff_ne.2 h5) (beq_eq_false_iff_ne.2 h6) (beq_eq_false_iff_ne.2 h7) (beq_eq_false_iff_ne.2 h8) w

/-- A predicate of no kid. -/
theorem hasT_no (p : VT → Bool) {o : Own} {kids : List VT} (h0 : p (.mk o kids) = false) (h : kids.any (hasT p) = false) : hasT p (.mk o kids) = false := by rw [hasT_mk, h0, VT.kids_mk, h]; rfl
theorem hasT_kid (p : VT → Bool) {o : Own} {kids : List VT} {t : VT} (ht : t ∈ kids) (h : hasT p t = true) : hasT p (.mk o kids) = true := by
  rw [hasT_mk, VT.kids_mk, List.any_eq_true.2 ⟨t, ht, h⟩, Bool.or_true]
set_option maxHeartbeats 1000000 in
theorem right_bad (kd : Int) (g : Bool) (x0 x1 x2 x3 b : Int) (s : ByteArray) (la : Option Addr) (n lc : Nat) (ka : Option Addr) (m kc : Nat) (w : World)
    (k1 : ∀ W, Below w.heap.size w W → Calls Tryz.prog 65 #[V10 kd g x0 x1 x2 x3 b s la n lc ka m kc] W fun e w' => e = .returned (.bool false) ∧ Below W.heap.size W w') :
    Calls Tryz.prog 36 #[V10 kd g x0 x1 x2 x3 b s la n lc ka m kc] w fun e w' => e = .returned (.bool false) ∧ Below w.heap.size w w' := by
  have K1 := Lib.hid k1; clear k1
  go_enter Tryz.func36, Tryz.ntmps36
  go_wp2_with (go_at_call 65; ((with_reducible refine (K1.out _ (bal (Below.refl _ _) _)).mono ?_); rintro e w1 ⟨rfl, hb1⟩))
  go_ret
  exact ⟨rfl, btr (bal (Below.refl _ _) _) hb1⟩
set_option maxHeartbeats 1000000 in
theorem right_core (kd : Int) (g : Bool) (x0 x1 x2 x3 b : Int) (s : ByteArray) (la : Option Addr) (lc : Nat) (ka : Option Addr) (m kc : Nat) (kids : List VT) (bb off : Nat) (R : Bool) (w : World) (hK : Kids w la kids bb off)
    (hq : ∀ t ∈ kids, Qv t w) (hyes : ∀ t ∈ kids, hasT wrongT t = true → R = false) (hno : kids.any (hasT wrongT) = false → R = true)
    (k1 : ∀ W, Below w.heap.size w W → Calls Tryz.prog 65 #[V10 kd g x0 x1 x2 x3 b s la kids.length lc ka m kc] W fun e w' => e = .returned (.bool true) ∧ Below W.heap.size W w')
    (ih : ∀ t ∈ kids, ∀ W, Qv t W → Calls Tryz.prog 36 #[t.val] W fun e w' => e = .returned (.bool (!hasT wrongT t)) ∧ Below W.heap.size W w') :
    Calls Tryz.prog 36 #[V10 kd g x0 x1 x2 x3 b s la kids.length lc ka m kc] w fun e w' => e = .returned (.bool R) ∧ Below w.heap.size w w' := by
  have hn := hK.len
  have HK := Lib.hid hK; have HI := Lib.hid ih; have HQ := Lib.hid hq; have HY := Lib.hid hyes; have HN := Lib.hid hno; have K1 := Lib.hid k1
  clear hK ih hq hyes hno k1
  go_enter Tryz.func36, Tryz.ntmps36
  go_wp2_with fail
  ((with_reducible refine (K1.out _ (bal (Below.refl _ _) _)).mono ?_); rintro e w1 ⟨rfl, hb1⟩)
  have X1 := Lib.hid (And.intro (btr (bal (Below.refl w.heap.size w) _) hb1) (Row10.keep hb1 (Row10.new w (.int .i64 kd) (.bool g) (.int .u64 x0) (.int .u64 x1) (.int .u64 x2) (.int .u64 x3) (.int .u64 b) (.string s) (.slice la kids.length lc) (.slice ka m kc))))
  clear hb1
  go_wp2
  go_loopw [3] (fun i wr => ∃ k : Nat, k ≤ kids.length ∧ i = .int .i64 k ∧ Hid (Below w.heap.size w wr ∧ Row10 wr w.heap.size (.int .i64 kd) (.bool g) (.int .u64 x0) (.int .u64 x1) (.int .u64 x2) (.int .u64 x3) (.int .u64 b) (.string s) (.slice la kids.length lc) (.slice ka m kc)) ∧ Hid ((kids.take k).any (hasT wrongT) = false)) (fun i _ => kids.length - (intOf i).toNat)
  case atStart => exact ⟨0, Nat.zero_le _, rfl, X1.out, (show Hid _ from by show _ = _; simp)⟩
  case round =>
    obtain ⟨k, hk, rfl, BW, AN⟩ := hrel
    obtain ⟨p0, p1, p2, p3, p4, p5, p6, p7, p8, p9⟩ := BW.out.2.parts
    clear p0 p1 p2 p3 p4 p5 p6 p7 p9 X1
    by_cases hlt : k < kids.length
    · obtain ⟨t, ht, hm⟩ := kid_at hlt
      have hnx := any_take_next (p := hasT wrongT) ht
      have hyy := HY.out t hm
      have hr := (HK.out.cells k t ht).keep BW.out.1
      obtain rfl : la = some ⟨bb, off, none⟩ := HK.out.la (by omega)
      have hti := (HQ.out t hm).keep BW.out.1
      have hcall := HI.out t hm
      obtain ⟨o2, l2⟩ := t
      obtain ⟨kd2, g2, x2', b2, s2, la2, lc2, ka2, kc2, ks2⟩ := o2
      simp only [VT.val, VT.cells, VT.o_mk, VT.kids_mk] at hcall
      obtain ⟨c0, c1, c2, c3, c4, c5, c6, c7, c8, c9⟩ := hr.ten
      clear hr
      generalize hTT : VT.mk ⟨kd2, g2, x2', b2, s2, la2, lc2, ka2, kc2, ks2⟩ l2 = T at *
      have HTI := Lib.hid hti; have HCALL := Lib.hid hcall; have HNX := Lib.hid hnx; have HYY := Lib.hid hyy
      clear hti hcall hnx hyy ht hTT
      cases hh : hasT wrongT T with
      | true =>
        rw [hh] at HCALL
        have HR := Lib.hid (HYY.out hh)
        clear hh
        go_wp2_with (go_at_call 36; ((with_reducible refine (HCALL.out _ HTI.out).mono ?_); rintro e w2 ⟨rfl, hb2⟩))
        go_ret
        exact ⟨ret_bool HR.out.symm, btr BW.out.1 hb2⟩
      | false =>
        rw [hh] at HCALL
        have HHH := Lib.hid hh
        clear hh
        go_wp2_with (go_at_call 36; ((with_reducible refine (HCALL.out _ HTI.out).mono ?_); rintro e w2 ⟨rfl, hb2⟩))
        go_roundw
        case rel => exact ⟨k + 1, by omega, by go_num, (show Hid _ from ⟨btr BW.out.1 hb2, BW.out.2.keep hb2⟩), (show Hid _ from by show _ = _; rw [HNX.out, AN.out, HHH.out]; rfl)⟩
        case measure => simp [intOf]; omega
    · have hge : ¬ (k : Int) < (kids.length : Int) := by omega
      have HR : Hid (R = true) := HN.out (by
        have := AN.out
        rw [List.take_of_length_le (by omega)] at this
        exact this)
      go_wp2
      go_ret
      exact ⟨ret_bool HR.out.symm, BW.out.1⟩
/-- Right. -/
theorem rright_any : ∀ (T : VT) (w : World), Qv T w → Calls Tryz.prog 36 #[T.val] w fun e w' => e = .returned (.bool (!hasT wrongT T)) ∧ Below w.heap.size w w' := by
  intro T
  induction T using VT.ind with
  | h o kids ih =>
    intro w hQ
    obtain ⟨bb, off, hK⟩ := hQ.ins.kids'
    have k1 := fun W (hb : Below w.heap.size w W) => rown_any (.mk o kids) W (hQ.keep hb)
    cases ho : ownB o kids.length with
    | false =>
      rw [show ownB (VT.mk o kids).o (VT.mk o kids).kids.length = false from ho] at k1
      have : hasT wrongT (.mk o kids) = true := by rw [hasT_mk, show wrongT (.mk o kids) = !ownB o kids.length from rfl, ho]; rfl
      rw [this]
      exact right_bad _ _ _ _ _ _ _ _ _ _ _ _ _ _ w k1
    | true =>
      rw [show ownB (VT.mk o kids).o (VT.mk o kids).kids.length = true from ho] at k1
      have h0 : wrongT (.mk o kids) = false := by rw [show wrongT (.mk o kids) = !ownB o kids.length from rfl, ho]; rfl
      exact right_core _ _ _ _ _ _ _ _ _ _ _ _ _ kids bb off _ w hK (fun t ht => hQ.kid t ht) (fun t ht h => by rw [hasT_kid wrongT ht h]; rfl) (fun h => by rw [hasT_no wrongT h0 h]; rfl) k1 (fun t ht W hW => ih t ht W hW)
end Go.Proofs.YtocffoemimghhaaGreatDoor
end
section
namespace Go.Proofs.YtocffoemimghhaaGreatDoor
open Go.RowKit Go.Shelf

/-- Tiny texts, few names. -/
def TinyO (o : Own) : Prop := o.text.size ≤ 300 ∧ o.keys.length ≤ 400 ∧ ∀ s ∈ o.keys, s.size ≤ 300
theorem few_tiny : ∀ (d : Nat) (T : VT), fewT d T ≤ 400 → T.Every TinyO
  | 0, T, h => by rw [fewT_zero] at h; omega
  | d + 1, T, h => by
    obtain ⟨_, _, hb, hk⟩ := fewT_few (d + 1) T h
    obtain ⟨o, kids⟩ := T
    have hk' : ∀ t ∈ kids, fewT d t ≤ 400 := hk
    refine .mk o kids ?_ (fun t ht => few_tiny d t (hk' t ht))
    have hb' : fewB o kids.length = false := hb
    unfold fewB at hb'
    rw [Bool.or_eq_false_iff, Bool.or_eq_false_iff, Bool.or_eq_false_iff, decide_eq_false_iff_not, decide_eq_false_iff_not, List.any_eq_false] at hb'
    obtain ⟨⟨⟨a, b⟩, _⟩, c⟩ := hb'
    exact ⟨by omega, by omega, fun s hs => by have := c s hs; simp at this; omega⟩
theorem tiny_over : ∀ (T : VT), T.Every TinyO → T.nodes ≤ 1000 → hasT overT T = false := by
  intro T
  induction T using VT.ind with
  | h o kids ih =>
    intro hE hn
    have hl := VT.length_nodes o kids
    obtain ⟨h1, h2, h3⟩ := hE.own
    refine hasT_no overT ?_ ?_
    · show overB o kids.length = false
      unfold overB
      have hk : (o.keys.any fun s => decide (4096 < s.size)) = false := by
        rw [List.any_eq_false]
        intro s hs
        have := h3 s hs
        simp; omega
      rw [hk]
      split
      · exact decide_eq_false (by omega)
      split
      · exact decide_eq_false (by omega)
      split
      · rw [decide_eq_false (by omega)]; rfl
      · rfl
    · rw [List.any_eq_false]
      intro t ht
      rw [ih t ht (hE.mem ht) (by have := VT.nodes_kid (o := o) ht; omega)]
      simp

set_option maxHeartbeats 2000000 in
theorem long_core (kd : Int) (g : Bool) (x0 x1 x2 x3 b : Int) (s : ByteArray) (la : Option Addr) (lc : Nat) (ka : Option Addr) (kc : Nat) (keys : List ByteArray) (kids : List VT) (kb koff bb off : Nat) (w : World)
    (hKk : KeysL w ka keys kb koff) (hK : Kids w la kids bb off) (h1 : s.size ≤ 300) (h2 : keys.length ≤ 400) (h3 : kids.length ≤ 1000) (hs : ∀ s ∈ keys, s.size ≤ 300)
    (ih : ∀ t ∈ kids, ∀ W, t.In W → Calls Tryz.prog 35 #[t.val] W fun e w' => e = .returned (.bool false) ∧ Below W.heap.size W w') :
    Calls Tryz.prog 35 #[V10 kd g x0 x1 x2 x3 b s la kids.length lc ka keys.length kc] w fun e w' => e = .returned (.bool false) ∧ Below w.heap.size w w' := by
  have e1 : ¬ (4096 : Int) < (s.size : Int) := by omega
  have e2 : ¬ (1000 : Int) < (keys.length : Int) := by omega
  have e3 : ¬ (1000 : Int) < (kids.length : Int) := by omega
  have HKK := Lib.hid hKk; have HK := Lib.hid hK; have HS := Lib.hid hs; have HI := Lib.hid ih
  clear hKk hK hs ih
  go_enter Tryz.func35, Tryz.ntmps35
  go_wp2
  go_loopw [3] (fun i wr => ∃ k : Nat, k ≤ keys.length ∧ i = .int .i64 k ∧ Hid (Below w.heap.size w wr ∧ Row10 wr w.heap.size (.int .i64 kd) (.bool g) (.int .u64 x0) (.int .u64 x1) (.int .u64 x2) (.int .u64 x3) (.int .u64 b) (.string s) (.slice la kids.length lc) (.slice ka keys.length kc))) (fun i _ => keys.length - (intOf i).toNat)
  case atStart => exact ⟨0, Nat.zero_le _, rfl, (show Hid _ from ⟨bal (Below.refl _ _) _, Row10.new _ _ _ _ _ _ _ _ _ _ _⟩)⟩
  case round =>
    obtain ⟨k, hk, rfl, BW⟩ := hrel
    obtain ⟨p0, p1, p2, p3, p4, p5, p6, p7, p8, p9⟩ := BW.out.2.parts
    by_cases hlt : k < keys.length
    · obtain ⟨t, ht, hm⟩ := key_at hlt
      have hr := cell_keep BW.out.1 (HKK.out.cells k t ht)
      have hb := HS.out t hm
      obtain rfl : ka = some ⟨kb, koff, none⟩ := HKK.out.ka (by omega)
      have hb2 : ¬ (4096 : Int) < (t.size : Int) := by omega
      clear ht hm
      go_wp2
      go_roundw
      case rel => exact ⟨k + 1, by omega, by go_num, BW.out⟩
      case measure => simp [intOf]; omega
    · have hge : ¬ (k : Int) < (keys.length : Int) := by omega
      clear p0 p1 p2 p3 p4 p5 p6 p7
      go_wp2
      obtain ⟨wo, hwo⟩ : ∃ wo : World, wo = wr := ⟨_, rfl⟩
      subst hwo
      go_loopw [4] (fun i wr => ∃ k : Nat, k ≤ kids.length ∧ i = .int .i64 k ∧ Hid (Below w.heap.size w wr ∧ Row10 wr w.heap.size (.int .i64 kd) (.bool g) (.int .u64 x0) (.int .u64 x1) (.int .u64 x2) (.int .u64 x3) (.int .u64 b) (.string s) (.slice la kids.length lc) (.slice ka keys.length kc))) (fun i _ => kids.length - (intOf i).toNat)
      case atStart => exact ⟨0, Nat.zero_le _, rfl, BW.out⟩
      case round =>
        clear BW p8 p9 hge hlt
        obtain ⟨k2, hk2, rfl, BV⟩ := hrel
        obtain ⟨p0, p1, p2, p3, p4, p5, p6, p7, p8, p9⟩ := BV.out.2.parts
        clear p0 p1 p2 p3 p4 p5 p6 p7 p9
        by_cases hlt2 : k2 < kids.length
        · obtain ⟨t, ht, hm⟩ := kid_at hlt2
          have hr := (HK.out.cells k2 t ht).keep BV.out.1
          obtain rfl : la = some ⟨bb, off, none⟩ := HK.out.la (by omega)
          have hti := (HK.out.ins k2 t ht).keep BV.out.1
          have hcall := HI.out t hm
          obtain ⟨o2, l2⟩ := t
          obtain ⟨kd2, g2, x2', b2, s2, la2, lc2, ka2, kc2, ks2⟩ := o2
          simp only [VT.val, VT.cells, VT.o_mk, VT.kids_mk] at hcall
          obtain ⟨c0, c1, c2, c3, c4, c5, c6, c7, c8, c9⟩ := hr.ten
          clear hr
          have HTI := Lib.hid hti; have HCALL := Lib.hid hcall
          clear hti hcall ht
          go_wp2_with fail
          ((with_reducible refine (HCALL.out _ HTI.out).mono ?_); rintro e w1 ⟨rfl, hb1⟩)
          have HB1 := Lib.hid hb1
          clear hb1
          go_wp2
          go_roundw
          case rel => exact ⟨k2 + 1, by omega, by go_num, (show Hid _ from ⟨btr BV.out.1 HB1.out, BV.out.2.keep HB1.out⟩)⟩
          case measure => simp [intOf]; omega
        · have hge2 : ¬ (k2 : Int) < (kids.length : Int) := by omega
          go_wp2
          go_ret
          exact ⟨rfl, BV.out.1⟩
theorem long_no : ∀ (T : VT), T.Every TinyO → T.nodes ≤ 1000 → ∀ w, T.In w → Calls Tryz.prog 35 #[T.val] w fun e w' => e = .returned (.bool false) ∧ Below w.heap.size w w' := by
  intro T
  induction T using VT.ind with
  | h o kids ih =>
    intro hE hn w hI
    obtain ⟨kb, koff, hKk⟩ := hI.keys'
    obtain ⟨bb, off, hK⟩ := hI.kids'
    obtain ⟨h1, h2, h3⟩ := hE.own
    have hl := VT.length_nodes o kids
    exact long_core _ _ _ _ _ _ _ _ _ _ _ _ o.keys kids kb koff bb off w hKk hK h1 h2 (by omega) h3 (fun t ht W hW => ih t ht (hE.mem ht) (by have := VT.nodes_kid (o := o) ht; omega) W hW)

section
variable (kd : Int) (g : Bool) (x0 x1 x2 x3 b : Int) (s : ByteArray) (la : Option Addr) (n lc : Nat) (ka : Option Addr) (m kc : Nat) (w : World)
theorem rmay_deep (d : Nat) (hd : 16 < d) (hd2 : d ≤ 1000000) (k1 : ∀ W, Below w.heap.size w W → Calls Tryz.prog 33 #[V10 kd g x0 x1 x2 x3 b s la n lc ka m kc] W fun e w' => e = .returned (.int .i64 (d : Nat)) ∧ Below W.heap.size W w') :
    Calls Tryz.prog 17 #[V10 kd g x0 x1 x2 x3 b s la n lc ka m kc] w fun e w' => e = .returned (.int .i64 4) ∧ Below w.heap.size w w' := by
  have K1 := Lib.hid k1; clear k1
  have h1 : (16 : Int) < (d : Int) := by omega
  go_enter Tryz.func17, Tryz.ntmps17
  go_wp2_with (go_at_call 33; ((with_reducible refine (K1.out _ (bal (Below.refl _ _) _)).mono ?_); rintro e w1 ⟨rfl, hb1⟩))
  go_ret
  exact ⟨rfl, btr (bal (Below.refl _ _) _) hb1⟩
theorem rmay_core (d N : Nat) (hd : ¬ 16 < d) (hN : N ≤ 10000) (r : Bool) (R : Int) (hR : R = if r then 0 else 1)
    (k1 : ∀ W, Below w.heap.size w W → Calls Tryz.prog 33 #[V10 kd g x0 x1 x2 x3 b s la n lc ka m kc] W fun e w' => e = .returned (.int .i64 (d : Nat)) ∧ Below W.heap.size W w')
    (k2 : ∀ W, Below w.heap.size w W → Calls Tryz.prog 34 #[V10 kd g x0 x1 x2 x3 b s la n lc ka m kc] W fun e w' => e = .returned (.int .i64 (N : Nat)) ∧ Below W.heap.size W w')
    (k3 : ∀ W, Below w.heap.size w W → Calls Tryz.prog 35 #[V10 kd g x0 x1 x2 x3 b s la n lc ka m kc] W fun e w' => e = .returned (.bool false) ∧ Below W.heap.size W w')
    (k4 : ∀ W, Below w.heap.size w W → Calls Tryz.prog 36 #[V10 kd g x0 x1 x2 x3 b s la n lc ka m kc] W fun e w' => e = .returned (.bool r) ∧ Below W.heap.size W w') :
    Calls Tryz.prog 17 #[V10 kd g x0 x1 x2 x3 b s la n lc ka m kc] w fun e w' => e = .returned (.int .i64 R) ∧ Below w.heap.size w w' := by
  have K1 := Lib.hid k1; have K2 := Lib.hid k2; have K3 := Lib.hid k3; have K4 := Lib.hid k4
  clear k1 k2 k3 k4
  have h1 : ¬ (16 : Int) < (d : Int) := by omega
  have h2 : ¬ (10000 : Int) < (N : Int) := by omega
  cases r
  all_goals
    have HR := Lib.hid hR
    clear hR
    go_enter Tryz.func17, Tryz.ntmps17
    go_wp2_with fail
    ((with_reducible refine (K1.out _ (bal (Below.refl _ _) _)).mono ?_); rintro e w1 ⟨rfl, hb1⟩)
    have R1 := Row10.keep hb1 (Row10.new w (.int .i64 kd) (.bool g) (.int .u64 x0) (.int .u64 x1) (.int .u64 x2) (.int .u64 x3) (.int .u64 b) (.string s) (.slice la n lc) (.slice ka m kc))
    have B1 := Lib.hid (btr (bal (Below.refl _ w) _) hb1)
    obtain ⟨p0, p1, p2, p3, p4, p5, p6, p7, p8, p9⟩ := R1.parts
    clear hb1
    go_wp2_with fail
    ((with_reducible refine (K2.out _ B1.out).mono ?_); rintro e w2 ⟨rfl, hb2⟩)
    have R2 := Row10.keep hb2 R1
    have B2 := Lib.hid (btr B1.out hb2)
    clear p0 p1 p2 p3 p4 p5 p6 p7 p8 p9 R1 hb2 B1
    obtain ⟨p0, p1, p2, p3, p4, p5, p6, p7, p8, p9⟩ := R2.parts
    go_wp2_with fail
    ((with_reducible refine (K3.out _ B2.out).mono ?_); rintro e w3 ⟨rfl, hb3⟩)
    have R3 := Row10.keep hb3 R2
    have B3 := Lib.hid (btr B2.out hb3)
    clear p0 p1 p2 p3 p4 p5 p6 p7 p8 p9 R2 hb3 B2
    obtain ⟨p0, p1, p2, p3, p4, p5, p6, p7, p8, p9⟩ := R3.parts
    go_wp2_with (go_at_call 36; ((with_reducible refine (K4.out _ B3.out).mono ?_); rintro e w4 ⟨rfl, hb4⟩))
    go_ret
    exact ⟨ret_int HR.out.symm, btr B3.out hb4⟩
end
/-- What may be tells the tiny, too. -/
theorem few_all {T : VT} {w : World} (h : fewOk T = true) (hI : T.In w) (hT : Tb w) : Qv T w ∧ T.nodes ≤ 400 ∧ T.depth ≤ 40 ∧ T.Every TinyO := by
  obtain ⟨a, b, c⟩ := few_q h hI hT
  exact ⟨a, b, c, few_tiny 40 T (of_decide_eq_true h)⟩
/-- entrepotref6.May, of a few. -/
theorem r6may_few (T : VT) (w : World) (hQ : Qv T w) (hn : T.nodes ≤ 400) (hd : T.depth ≤ 40) (hE : T.Every TinyO) :
    Calls Tryz.prog 17 #[T.val] w fun e w' => e = .returned (.int .i64 (mayN T)) ∧ Below w.heap.size w w' := by
  have k1 := fun W (hb : Below w.heap.size w W) => rdepth T (by omega) W (hQ.ins.keep hb)
  have k2 := fun W (hb : Below w.heap.size w W) => rnodes T (by omega) W (hQ.ins.keep hb)
  have k3 := fun W (hb : Below w.heap.size w W) => long_no T hE (by omega) W (hQ.ins.keep hb)
  have k4 := fun W (hb : Below w.heap.size w W) => rright_any T W (hQ.keep hb)
  unfold mayN
  rw [tiny_over T hE (by omega)]
  by_cases h : 16 < T.depth
  · rw [if_pos h]
    exact rmay_deep _ _ _ _ _ _ _ _ _ _ _ _ _ _ w _ h (by omega) k1
  · rw [if_neg h, if_neg (by simp)]
    refine rmay_core _ _ _ _ _ _ _ _ _ _ _ _ _ _ w _ _ h (by omega) _ _ ?_ k1 k2 k3 k4
    cases hasT wrongT T <;> rfl
end Go.Proofs.YtocffoemimghhaaGreatDoor
end
