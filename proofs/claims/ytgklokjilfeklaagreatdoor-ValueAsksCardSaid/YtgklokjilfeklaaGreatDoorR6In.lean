/-
  entrepotref6.Range64, Inside, In: the contracts.
-/
import Derived.Test.YtgklokjilfeklaaGreatDoorR6Long
import Derived.Test.YtgklokjilfeklaaGreatDoorGN
import Derived.Lib.QuietBelow
import Derived.BigQuiet
namespace Go.Proofs.YtgklokjilfeklaaGreatDoor
open Go.RowKit Go.Shelf
open Go.Sort (grow)

theorem range64_core (g : Bool) (x0 x1 x2 x3 v1 v2 : Int) (b1 b2 : Bool) (w : World)
    (k1 : ∀ W, Calls Tryz.prog 153 #[.agg #[.bool g, .int .u64 x0, .int .u64 x1, .int .u64 x2, .int .u64 x3]] W fun e w' => e = .returned (.tuple #[.int .u64 v1, .bool b1]) ∧ Below W.heap.size W w')
    (k2 : ∀ W, Calls Tryz.prog 154 #[.agg #[.bool g, .int .u64 x0, .int .u64 x1, .int .u64 x2, .int .u64 x3]] W fun e w' => e = .returned (.tuple #[.int .i64 v2, .bool b2]) ∧ Below W.heap.size W w') :
    Calls Tryz.prog 98 #[.agg #[.bool g, .int .u64 x0, .int .u64 x1, .int .u64 x2, .int .u64 x3]] w fun e w' => e = .returned (.bool (b1 || b2)) ∧ Below w.heap.size w w' := by
  have K1 := Lib.hid k1; have K2 := Lib.hid k2
  clear k1 k2
  cases b1
  all_goals
    go_enter Tryz.func98, Tryz.ntmps98
    go_wp2_with fail
    ((with_reducible refine (K1.out _).mono ?_); rintro e w1 ⟨rfl, hb1⟩)
    have R := Row5.keep hb1 (Row5.new w (.bool g) (.int .u64 x0) (.int .u64 x1) (.int .u64 x2) (.int .u64 x3))
    have B1 := Lib.hid (btr (bal (Below.refl _ w) _) hb1)
    obtain ⟨p0, p1, p2, p3, p4⟩ := R.parts
    clear hb1
    first
    | (go_wp2_with (go_at_call 154; ((with_reducible refine (K2.out _).mono ?_); rintro e w2 ⟨rfl, hb2⟩))
       go_ret
       exact ⟨rfl, btr B1.out hb2⟩)
    | (go_wp2
       go_ret
       exact ⟨rfl, B1.out⟩)
/-- -2^63 to 2^64 - 1. -/
def rangeB (g : Bool) (x : Nat) : Bool := decide (0 ≤ (if g then -(x : Int) else x) ∧ (if g then -(x : Int) else x) < 18446744073709551616) || decide (-9223372036854775808 ≤ (if g then -(x : Int) else x) ∧ (if g then -(x : Int) else x) < 9223372036854775808)
theorem range64_any (g : Bool) (x : Nat) (hx : x < 2 ^ 256) (h : ¬ (g = true ∧ x = 0)) (w : World) :
    Calls Tryz.prog 98 #[I5 g x] w fun e w' => e = .returned (.bool (rangeB g x)) ∧ Below w.heap.size w w' := by
  obtain ⟨e, hn⟩ := I5_of g x h
  obtain ⟨v1, e1⟩ := znt_pair .i64 (if g then -(x : Int) else x) (decide (-9223372036854775808 ≤ (if g then -(x : Int) else x) ∧ (if g then -(x : Int) else x) < 9223372036854775808))
  obtain ⟨v2, e2⟩ := znt_pair .u64 (if g then -(x : Int) else x) (decide (0 ≤ (if g then -(x : Int) else x) ∧ (if g then -(x : Int) else x) < 18446744073709551616))
  have k1 := fun W => rtoint_z (if g then -(x : Int) else x) (by rw [hn]; exact hx) W
  have k2 := fun W => rtouint_z (if g then -(x : Int) else x) (by rw [hn]; exact hx) W
  rw [e1, ← e] at k1
  rw [e2, ← e] at k2
  exact range64_core g (lb 0 x) (lb 1 x) (lb 2 x) (lb 3 x) v2 v1 _ _ w k2 k1
theorem proto_range (g : Bool) (x : Nat) (h : ¬ (g = true ∧ x = 0)) : protoB g x = (rangeB g x || exq x) := by
  unfold protoB rangeB
  rw [if_neg h]
  cases exq x <;> simp [Bool.or_comm]
theorem okI_iff (g : Bool) (x : Nat) (hx : x < 2 ^ 256) (h : okI g x = true) : ¬ (g = true ∧ x = 0) := by
  rintro ⟨rfl, rfl⟩
  unfold okI at h
  simp only [lb_zero] at h
  exact absurd h (by decide)

set_option maxRecDepth 100000 in
set_option maxHeartbeats 2000000 in
theorem inside_j6 (g : Bool) (x0 x1 x2 x3 b : Int) (s : ByteArray) (la : Option Addr) (lc : Nat) (ka : Option Addr) (m kc : Nat) (kids : List VT) (w : World) (be ar : Bool) :
    Calls Tryz.prog 44 #[V10 6 g x0 x1 x2 x3 b s la kids.length lc ka m kc, .int .i64 1, .bool be, .bool ar] w fun e w' => e = .returned (.bool false) ∧ Below w.heap.size w w' := by
  go_enter Tryz.func44, Tryz.ntmps44
  go_wp2
  go_ret
  exact ⟨rfl, bal (Below.refl _ _) _⟩
set_option maxRecDepth 100000 in
set_option maxHeartbeats 2000000 in
theorem inside_j4 (g : Bool) (x0 x1 x2 x3 b : Int) (s : ByteArray) (la : Option Addr) (lc : Nat) (ka : Option Addr) (m kc : Nat) (kids : List VT) (w : World) (be ar : Bool) (c : Int) (hcc : (c != 1) = true) (hc : ∀ W, Below w.heap.size w W → Calls Tryz.prog 97 #[.int .u64 b] W fun e w' => e = .returned (.int .i64 c) ∧ Below W.heap.size W w') :
    Calls Tryz.prog 44 #[V10 4 g x0 x1 x2 x3 b s la kids.length lc ka m kc, .int .i64 1, .bool be, .bool ar] w fun e w' => e = .returned (.bool false) ∧ Below w.heap.size w w' := by
  have HC := Lib.hid hc; clear hc
  go_enter Tryz.func44, Tryz.ntmps44
  go_wp2_with (go_at_call 97; ((with_reducible refine (HC.out _ (bal (Below.refl _ _) _)).mono ?_); rintro e w1 ⟨rfl, hb1⟩))
  go_ret
  exact ⟨rfl, by first | exact btr (bal (Below.refl _ _) _) (by assumption) | exact bal (Below.refl _ _) _⟩
set_option maxRecDepth 100000 in
set_option maxHeartbeats 2000000 in
theorem inside_p1 (g : Bool) (x0 x1 x2 x3 b : Int) (s : ByteArray) (la : Option Addr) (lc : Nat) (ka : Option Addr) (m kc : Nat) (kids : List VT) (w : World) (be ar : Bool) :
    Calls Tryz.prog 44 #[V10 1 g x0 x1 x2 x3 b s la kids.length lc ka m kc, .int .i64 3, .bool be, .bool ar] w fun e w' => e = .returned (.bool false) ∧ Below w.heap.size w w' := by
  go_enter Tryz.func44, Tryz.ntmps44
  go_wp2
  go_ret
  exact ⟨rfl, bal (Below.refl _ _) _⟩
set_option maxRecDepth 100000 in
set_option maxHeartbeats 2000000 in
theorem inside_ptop (g : Bool) (x0 x1 x2 x3 b : Int) (s : ByteArray) (la : Option Addr) (lc : Nat) (ka : Option Addr) (m kc : Nat) (kids : List VT) (w : World) (ar : Bool) (kd : Int) (h1 : (kd == 1) = false) (h8 : (kd != 8) = true) :
    Calls Tryz.prog 44 #[V10 kd g x0 x1 x2 x3 b s la kids.length lc ka m kc, .int .i64 3, .bool false, .bool ar] w fun e w' => e = .returned (.bool false) ∧ Below w.heap.size w w' := by
  go_enter Tryz.func44, Tryz.ntmps44
  go_wp2
  go_ret
  exact ⟨rfl, bal (Below.refl _ _) _⟩
set_option maxRecDepth 100000 in
set_option maxHeartbeats 2000000 in
theorem inside_parr (g : Bool) (x0 x1 x2 x3 b : Int) (s : ByteArray) (la : Option Addr) (lc : Nat) (ka : Option Addr) (m kc : Nat) (kids : List VT) (w : World)  :
    Calls Tryz.prog 44 #[V10 7 g x0 x1 x2 x3 b s la kids.length lc ka m kc, .int .i64 3, .bool true, .bool true] w fun e w' => e = .returned (.bool false) ∧ Below w.heap.size w w' := by
  go_enter Tryz.func44, Tryz.ntmps44
  go_wp2
  go_ret
  exact ⟨rfl, bal (Below.refl _ _) _⟩
set_option maxRecDepth 100000 in
set_option maxHeartbeats 2000000 in
theorem inside_p3 (g : Bool) (x0 x1 x2 x3 b : Int) (s : ByteArray) (la : Option Addr) (lc : Nat) (ka : Option Addr) (m kc : Nat) (kids : List VT) (w : World) (ar : Bool) (hc : ∀ W, Below w.heap.size w W → Calls Tryz.prog 98 #[.agg #[.bool g, .int .u64 x0, .int .u64 x1, .int .u64 x2, .int .u64 x3]] W fun e w' => e = .returned (.bool false) ∧ Below W.heap.size W w') (hx : ∀ W, Below w.heap.size w W → Calls Tryz.prog 99 #[.agg #[.bool g, .int .u64 x0, .int .u64 x1, .int .u64 x2, .int .u64 x3]] W fun e w' => e = .returned (.bool false) ∧ Below W.heap.size W w') :
    Calls Tryz.prog 44 #[V10 3 g x0 x1 x2 x3 b s la kids.length lc ka m kc, .int .i64 3, .bool true, .bool ar] w fun e w' => e = .returned (.bool false) ∧ Below w.heap.size w w' := by
  have HC := Lib.hid hc; have HX := Lib.hid hx
  clear hc hx
  cases ar
  all_goals
    go_enter Tryz.func44, Tryz.ntmps44
    have X0 := Lib.hid (And.intro (bal (Below.refl w.heap.size w) (.cells #[.int .i64 3, .bool g, .int .u64 x0, .int .u64 x1, .int .u64 x2, .int .u64 x3, .int .u64 b, .string s, .slice la kids.length lc, .slice ka m kc] 31)) (Row10.new w (.int .i64 3) (.bool g) (.int .u64 x0) (.int .u64 x1) (.int .u64 x2) (.int .u64 x3) (.int .u64 b) (.string s) (.slice la kids.length lc) (.slice ka m kc)))
    go_wp2_with fail
    ((with_reducible refine (HC.out _ X0.out.1).mono ?_); rintro e w1 ⟨rfl, hb⟩)
    have X1 := Lib.hid (And.intro (btr X0.out.1 hb) (Row10.keep hb X0.out.2))
    clear hb X0
    obtain ⟨p0, p1, p2, p3, p4, p5, p6, p7, p8, p9⟩ := X1.out.2.parts
    go_wp2_with fail
    ((with_reducible refine (HX.out _ X1.out.1).mono ?_); rintro e w2 ⟨rfl, hb⟩)
    have X2 := Lib.hid (And.intro (btr X1.out.1 hb) (Row10.keep hb X1.out.2))
    clear hb X1 p0 p1 p2 p3 p4 p5 p6 p7 p8 p9
    obtain ⟨p0, p1, p2, p3, p4, p5, p6, p7, p8, p9⟩ := X2.out.2.parts
    go_wp2
    go_ret
    exact ⟨rfl, X2.out.1⟩
theorem all_take_next {kids : List VT} {k : Nat} {t : VT} {p : VT → Bool} (h : kids[k]? = some t) : (kids.take (k + 1)).all p = ((kids.take k).all p && p t) := by
  rw [take_next h, List.all_append]; simp
theorem all_no {kids : List VT} {t : VT} {p : VT → Bool} (h : t ∈ kids) (hp : p t = false) : kids.all p = false := by
  rw [Bool.eq_false_iff]
  intro ha
  rw [List.all_eq_true.1 ha t h] at hp
  cases hp
set_option maxRecDepth 100000 in
set_option maxHeartbeats 8000000 in
theorem inside_j4g (g : Bool) (x0 x1 x2 x3 b : Int) (s : ByteArray) (la : Option Addr) (lc : Nat) (ka : Option Addr) (m kc : Nat) (kids : List VT) (bb off : Nat) (w : World) (q : VT → Bool) (hK : Kids w la kids bb off) (hq : ∀ t ∈ kids, Qv t w) (be ar : Bool) (c : Int) (hcc : (c != 1) = false) (hc : ∀ W, Below w.heap.size w W → Calls Tryz.prog 97 #[.int .u64 b] W fun e w' => e = .returned (.int .i64 c) ∧ Below W.heap.size W w')
    (ih : ∀ t ∈ kids, ∀ W, Qv t W → Calls Tryz.prog 44 #[t.val, .int .i64 1, .bool true, .bool false] W fun e w' => e = .returned (.bool (q t)) ∧ Below W.heap.size W w') :
    Calls Tryz.prog 44 #[V10 4 g x0 x1 x2 x3 b s la kids.length lc ka m kc, .int .i64 1, .bool be, .bool ar] w fun e w' => e = .returned (.bool (kids.all q)) ∧ Below w.heap.size w w' := by
  have hn := hK.len
  have HK := Lib.hid hK; have HI := Lib.hid ih; have HQ := Lib.hid hq
  clear hK ih hq
  have HC := Lib.hid hc; clear hc
  go_enter Tryz.func44, Tryz.ntmps44
  have X0 := Lib.hid (And.intro (bal (Below.refl w.heap.size w) (.cells #[.int .i64 4, .bool g, .int .u64 x0, .int .u64 x1, .int .u64 x2, .int .u64 x3, .int .u64 b, .string s, .slice la kids.length lc, .slice ka m kc] 31)) (Row10.new w (.int .i64 4) (.bool g) (.int .u64 x0) (.int .u64 x1) (.int .u64 x2) (.int .u64 x3) (.int .u64 b) (.string s) (.slice la kids.length lc) (.slice ka m kc)))
  go_wp2_with fail
  ((with_reducible refine (HC.out _ X0.out.1).mono ?_); rintro e w1 ⟨rfl, hb⟩)
  have X1 := Lib.hid (And.intro (btr X0.out.1 hb) (Row10.keep hb X0.out.2))
  clear hb X0
  obtain ⟨p0, p1, p2, p3, p4, p5, p6, p7, p8, p9⟩ := X1.out.2.parts
  go_wp2
  clear p0 p1 p2 p3 p4 p5 p6 p7 p8 p9
  go_loopw [9] (fun i wr => ∃ k : Nat, k ≤ kids.length ∧ i = .int .i64 k ∧ Hid (Below w.heap.size w wr ∧ Row10 wr w.heap.size (.int .i64 4) (.bool g) (.int .u64 x0) (.int .u64 x1) (.int .u64 x2) (.int .u64 x3) (.int .u64 b) (.string s) (.slice la kids.length lc) (.slice ka m kc)) ∧ Hid ((kids.take k).all q = true)) (fun i _ => kids.length - (intOf i).toNat)
  case atStart => exact ⟨0, Nat.zero_le _, rfl, X1.out, (show Hid _ from by show _ = _; simp)⟩
  case round =>
    obtain ⟨k, hk, rfl, BW, AN⟩ := hrel
    obtain ⟨p0, p1, p2, p3, p4, p5, p6, p7, p8, p9⟩ := BW.out.2.parts
    clear X1
    by_cases hlt : k < kids.length
    · obtain ⟨t, ht, hm⟩ := kid_at hlt
      have hr := (HK.out.cells k t ht).keep BW.out.1
      obtain rfl : la = some ⟨bb, off, none⟩ := HK.out.la (by omega)
      have hti := (HQ.out t hm).keep BW.out.1
      have hcall := HI.out t hm
      have hnx := all_take_next (p := q) ht
      have hno := all_no (p := q) hm
      obtain ⟨o2, l2⟩ := t
      obtain ⟨kd2, g2, x2', b2, s2, la2, lc2, ka2, kc2, ks2⟩ := o2
      simp only [VT.val, VT.cells, VT.o_mk, VT.kids_mk] at hcall
      obtain ⟨c0, c1, c2, c3, c4, c5, c6, c7, c8, c9⟩ := hr.ten
      clear hr
      have hlt2 : (k : Int) < (kids.length : Int) := by omega
      generalize hTT : VT.mk ⟨kd2, g2, x2', b2, s2, la2, lc2, ka2, kc2, ks2⟩ l2 = T at *
      have HTI := Lib.hid hti; have HCALL := Lib.hid hcall; have HNX := Lib.hid hnx; have HNO := Lib.hid hno
      clear hti hcall hnx hno ht hTT
      cases hh : q T
      all_goals
        rw [hh] at HCALL
        have HHH := Lib.hid hh
        clear hh
        have cq0 := fun (d : Nat) (os : Array Obj) => Calls.regrown_of (w := wr) (d := d) (os := os) (HCALL.out _ (HTI.out.keep (below_regrown wr d os)))
        go_upto_region 10 with (fail)
        have r0 := cell_regrown p0; have r8 := cell_regrown p8
        have s0 := cell_regrown c0; have s1 := cell_regrown c1; have s2' := cell_regrown c2; have s3 := cell_regrown c3; have s4 := cell_regrown c4; have s5 := cell_regrown c5; have s6 := cell_regrown c6; have s7 := cell_regrown c7; have s8 := cell_regrown c8; have s9 := cell_regrown c9
        clear p0 p1 p2 p3 p4 p5 p6 p7 p8 p9 c0 c1 c2 c3 c4 c5 c6 c7 c8 c9
        refine wp_region_quiet_below (by kernel_rfl) (by kernel_rfl) ?_
        repeat (first | go_big_quiet_step ((with_reducible exact cq0 _ _)) | quiet_step (with_reducible exact cq0 _ _))
        refine wpQuiet_nil ?_
        intro _ hw'
        obtain ⟨⟨dq, osq⟩, hw''⟩ := hw'
        subst hw''
        have hb := below_regrown wr dq osq
        clear r0 r8 s0 s1 s2' s3 s4 s5 s6 s7 s8 s9 cq0
        have BV : Hid (Below w.heap.size w (grow (redrawn wr dq) osq) ∧ Row10 (grow (redrawn wr dq) osq) w.heap.size (.int .i64 4) (.bool g) (.int .u64 x0) (.int .u64 x1) (.int .u64 x2) (.int .u64 x3) (.int .u64 b) (.string s) (.slice (some ⟨bb, off, none⟩) kids.length lc) (.slice ka m kc)) := ⟨btr BW.out.1 hb, BW.out.2.keep hb⟩
        generalize grow (redrawn wr dq) osq = w9 at *
        clear hb
        first
        | (go_wp2
           go_ret
           exact ⟨ret_bool (by rw [HNO.out HHH.out]), BV.out.1⟩)
        | (go_wp2
           go_roundw
           case rel => exact ⟨k + 1, by omega, by go_num, BV, (show Hid _ from by show _ = _; rw [HNX.out, AN.out, HHH.out]; rfl)⟩
           case measure => simp [intOf]; omega)
    · have hge : ¬ (k : Int) < (kids.length : Int) := by omega
      have HR : Hid (kids.all q = true) := by
        have := AN.out
        rw [List.take_of_length_le (by omega)] at this
        exact this
      go_wp2
      go_ret
      exact ⟨ret_bool HR.out.symm, BW.out.1⟩
set_option maxRecDepth 100000 in
set_option maxHeartbeats 8000000 in
theorem inside_jg (g : Bool) (x0 x1 x2 x3 b : Int) (s : ByteArray) (la : Option Addr) (lc : Nat) (ka : Option Addr) (m kc : Nat) (kids : List VT) (bb off : Nat) (w : World) (q : VT → Bool) (hK : Kids w la kids bb off) (hq : ∀ t ∈ kids, Qv t w) (be ar : Bool) (kd : Int) (h4 : (kd == 4) = false) (h6 : (kd == 6) = false) (a : Bool) (ha : (kd == 7) = a)
    (ih : ∀ t ∈ kids, ∀ W, Qv t W → Calls Tryz.prog 44 #[t.val, .int .i64 1, .bool true, .bool a] W fun e w' => e = .returned (.bool (q t)) ∧ Below W.heap.size W w') :
    Calls Tryz.prog 44 #[V10 kd g x0 x1 x2 x3 b s la kids.length lc ka m kc, .int .i64 1, .bool be, .bool ar] w fun e w' => e = .returned (.bool (kids.all q)) ∧ Below w.heap.size w w' := by
  have hn := hK.len
  have HK := Lib.hid hK; have HI := Lib.hid ih; have HQ := Lib.hid hq
  clear hK ih hq
  go_enter Tryz.func44, Tryz.ntmps44
  have X0 := Lib.hid (And.intro (bal (Below.refl w.heap.size w) (.cells #[.int .i64 kd, .bool g, .int .u64 x0, .int .u64 x1, .int .u64 x2, .int .u64 x3, .int .u64 b, .string s, .slice la kids.length lc, .slice ka m kc] 31)) (Row10.new w (.int .i64 kd) (.bool g) (.int .u64 x0) (.int .u64 x1) (.int .u64 x2) (.int .u64 x3) (.int .u64 b) (.string s) (.slice la kids.length lc) (.slice ka m kc)))
  go_wp2
  go_loopw [9] (fun i wr => ∃ k : Nat, k ≤ kids.length ∧ i = .int .i64 k ∧ Hid (Below w.heap.size w wr ∧ Row10 wr w.heap.size (.int .i64 kd) (.bool g) (.int .u64 x0) (.int .u64 x1) (.int .u64 x2) (.int .u64 x3) (.int .u64 b) (.string s) (.slice la kids.length lc) (.slice ka m kc)) ∧ Hid ((kids.take k).all q = true)) (fun i _ => kids.length - (intOf i).toNat)
  case atStart => exact ⟨0, Nat.zero_le _, rfl, X0.out, (show Hid _ from by show _ = _; simp)⟩
  case round =>
    obtain ⟨k, hk, rfl, BW, AN⟩ := hrel
    obtain ⟨p0, p1, p2, p3, p4, p5, p6, p7, p8, p9⟩ := BW.out.2.parts
    clear X0
    by_cases hlt : k < kids.length
    · obtain ⟨t, ht, hm⟩ := kid_at hlt
      have hr := (HK.out.cells k t ht).keep BW.out.1
      obtain rfl : la = some ⟨bb, off, none⟩ := HK.out.la (by omega)
      have hti := (HQ.out t hm).keep BW.out.1
      have hcall := HI.out t hm
      have hnx := all_take_next (p := q) ht
      have hno := all_no (p := q) hm
      obtain ⟨o2, l2⟩ := t
      obtain ⟨kd2, g2, x2', b2, s2, la2, lc2, ka2, kc2, ks2⟩ := o2
      simp only [VT.val, VT.cells, VT.o_mk, VT.kids_mk] at hcall
      obtain ⟨c0, c1, c2, c3, c4, c5, c6, c7, c8, c9⟩ := hr.ten
      clear hr
      have hlt2 : (k : Int) < (kids.length : Int) := by omega
      generalize hTT : VT.mk ⟨kd2, g2, x2', b2, s2, la2, lc2, ka2, kc2, ks2⟩ l2 = T at *
      have HTI := Lib.hid hti; have HCALL := Lib.hid hcall; have HNX := Lib.hid hnx; have HNO := Lib.hid hno
      clear hti hcall hnx hno ht hTT
      cases hh : q T
      all_goals
        rw [hh] at HCALL
        have HHH := Lib.hid hh
        clear hh
        have cq0 := fun (d : Nat) (os : Array Obj) => Calls.regrown_of (w := wr) (d := d) (os := os) (HCALL.out _ (HTI.out.keep (below_regrown wr d os)))
        go_upto_region 10 with (fail)
        have r0 := cell_regrown p0; have r8 := cell_regrown p8
        have s0 := cell_regrown c0; have s1 := cell_regrown c1; have s2' := cell_regrown c2; have s3 := cell_regrown c3; have s4 := cell_regrown c4; have s5 := cell_regrown c5; have s6 := cell_regrown c6; have s7 := cell_regrown c7; have s8 := cell_regrown c8; have s9 := cell_regrown c9
        clear p0 p1 p2 p3 p4 p5 p6 p7 p8 p9 c0 c1 c2 c3 c4 c5 c6 c7 c8 c9
        refine wp_region_quiet_below (by kernel_rfl) (by kernel_rfl) ?_
        repeat (first | go_big_quiet_step ((with_reducible exact cq0 _ _)) | quiet_step (with_reducible exact cq0 _ _))
        refine wpQuiet_nil ?_
        intro _ hw'
        obtain ⟨⟨dq, osq⟩, hw''⟩ := hw'
        subst hw''
        have hb := below_regrown wr dq osq
        clear r0 r8 s0 s1 s2' s3 s4 s5 s6 s7 s8 s9 cq0
        have BV : Hid (Below w.heap.size w (grow (redrawn wr dq) osq) ∧ Row10 (grow (redrawn wr dq) osq) w.heap.size (.int .i64 kd) (.bool g) (.int .u64 x0) (.int .u64 x1) (.int .u64 x2) (.int .u64 x3) (.int .u64 b) (.string s) (.slice (some ⟨bb, off, none⟩) kids.length lc) (.slice ka m kc)) := ⟨btr BW.out.1 hb, BW.out.2.keep hb⟩
        generalize grow (redrawn wr dq) osq = w9 at *
        clear hb
        first
        | (go_wp2
           go_ret
           exact ⟨ret_bool (by rw [HNO.out HHH.out]), BV.out.1⟩)
        | (go_wp2
           go_roundw
           case rel => exact ⟨k + 1, by omega, by go_num, BV, (show Hid _ from by show _ = _; rw [HNX.out, AN.out, HHH.out]; rfl)⟩
           case measure => simp [intOf]; omega)
    · have hge : ¬ (k : Int) < (kids.length : Int) := by omega
      have HR : Hid (kids.all q = true) := by
        have := AN.out
        rw [List.take_of_length_le (by omega)] at this
        exact this
      go_wp2
      go_ret
      exact ⟨ret_bool HR.out.symm, BW.out.1⟩
set_option maxRecDepth 100000 in
set_option maxHeartbeats 8000000 in
theorem inside_cg (g : Bool) (x0 x1 x2 x3 b : Int) (s : ByteArray) (la : Option Addr) (lc : Nat) (ka : Option Addr) (m kc : Nat) (kids : List VT) (bb off : Nat) (w : World) (q : VT → Bool) (hK : Kids w la kids bb off) (hq : ∀ t ∈ kids, Qv t w) (be ar : Bool) (kd : Int) (a : Bool) (ha : (kd == 7) = a)
    (ih : ∀ t ∈ kids, ∀ W, Qv t W → Calls Tryz.prog 44 #[t.val, .int .i64 2, .bool true, .bool a] W fun e w' => e = .returned (.bool (q t)) ∧ Below W.heap.size W w') :
    Calls Tryz.prog 44 #[V10 kd g x0 x1 x2 x3 b s la kids.length lc ka m kc, .int .i64 2, .bool be, .bool ar] w fun e w' => e = .returned (.bool (kids.all q)) ∧ Below w.heap.size w w' := by
  have hn := hK.len
  have HK := Lib.hid hK; have HI := Lib.hid ih; have HQ := Lib.hid hq
  clear hK ih hq
  go_enter Tryz.func44, Tryz.ntmps44
  have X0 := Lib.hid (And.intro (bal (Below.refl w.heap.size w) (.cells #[.int .i64 kd, .bool g, .int .u64 x0, .int .u64 x1, .int .u64 x2, .int .u64 x3, .int .u64 b, .string s, .slice la kids.length lc, .slice ka m kc] 31)) (Row10.new w (.int .i64 kd) (.bool g) (.int .u64 x0) (.int .u64 x1) (.int .u64 x2) (.int .u64 x3) (.int .u64 b) (.string s) (.slice la kids.length lc) (.slice ka m kc)))
  go_wp2
  go_loopw [9] (fun i wr => ∃ k : Nat, k ≤ kids.length ∧ i = .int .i64 k ∧ Hid (Below w.heap.size w wr ∧ Row10 wr w.heap.size (.int .i64 kd) (.bool g) (.int .u64 x0) (.int .u64 x1) (.int .u64 x2) (.int .u64 x3) (.int .u64 b) (.string s) (.slice la kids.length lc) (.slice ka m kc)) ∧ Hid ((kids.take k).all q = true)) (fun i _ => kids.length - (intOf i).toNat)
  case atStart => exact ⟨0, Nat.zero_le _, rfl, X0.out, (show Hid _ from by show _ = _; simp)⟩
  case round =>
    obtain ⟨k, hk, rfl, BW, AN⟩ := hrel
    obtain ⟨p0, p1, p2, p3, p4, p5, p6, p7, p8, p9⟩ := BW.out.2.parts
    clear X0
    by_cases hlt : k < kids.length
    · obtain ⟨t, ht, hm⟩ := kid_at hlt
      have hr := (HK.out.cells k t ht).keep BW.out.1
      obtain rfl : la = some ⟨bb, off, none⟩ := HK.out.la (by omega)
      have hti := (HQ.out t hm).keep BW.out.1
      have hcall := HI.out t hm
      have hnx := all_take_next (p := q) ht
      have hno := all_no (p := q) hm
      obtain ⟨o2, l2⟩ := t
      obtain ⟨kd2, g2, x2', b2, s2, la2, lc2, ka2, kc2, ks2⟩ := o2
      simp only [VT.val, VT.cells, VT.o_mk, VT.kids_mk] at hcall
      obtain ⟨c0, c1, c2, c3, c4, c5, c6, c7, c8, c9⟩ := hr.ten
      clear hr
      have hlt2 : (k : Int) < (kids.length : Int) := by omega
      generalize hTT : VT.mk ⟨kd2, g2, x2', b2, s2, la2, lc2, ka2, kc2, ks2⟩ l2 = T at *
      have HTI := Lib.hid hti; have HCALL := Lib.hid hcall; have HNX := Lib.hid hnx; have HNO := Lib.hid hno
      clear hti hcall hnx hno ht hTT
      cases hh : q T
      all_goals
        rw [hh] at HCALL
        have HHH := Lib.hid hh
        clear hh
        have cq0 := fun (d : Nat) (os : Array Obj) => Calls.regrown_of (w := wr) (d := d) (os := os) (HCALL.out _ (HTI.out.keep (below_regrown wr d os)))
        go_upto_region 10 with (fail)
        have r0 := cell_regrown p0; have r8 := cell_regrown p8
        have s0 := cell_regrown c0; have s1 := cell_regrown c1; have s2' := cell_regrown c2; have s3 := cell_regrown c3; have s4 := cell_regrown c4; have s5 := cell_regrown c5; have s6 := cell_regrown c6; have s7 := cell_regrown c7; have s8 := cell_regrown c8; have s9 := cell_regrown c9
        clear p0 p1 p2 p3 p4 p5 p6 p7 p8 p9 c0 c1 c2 c3 c4 c5 c6 c7 c8 c9
        refine wp_region_quiet_below (by kernel_rfl) (by kernel_rfl) ?_
        repeat (first | go_big_quiet_step ((with_reducible exact cq0 _ _)) | quiet_step (with_reducible exact cq0 _ _))
        refine wpQuiet_nil ?_
        intro _ hw'
        obtain ⟨⟨dq, osq⟩, hw''⟩ := hw'
        subst hw''
        have hb := below_regrown wr dq osq
        clear r0 r8 s0 s1 s2' s3 s4 s5 s6 s7 s8 s9 cq0
        have BV : Hid (Below w.heap.size w (grow (redrawn wr dq) osq) ∧ Row10 (grow (redrawn wr dq) osq) w.heap.size (.int .i64 kd) (.bool g) (.int .u64 x0) (.int .u64 x1) (.int .u64 x2) (.int .u64 x3) (.int .u64 b) (.string s) (.slice (some ⟨bb, off, none⟩) kids.length lc) (.slice ka m kc)) := ⟨btr BW.out.1 hb, BW.out.2.keep hb⟩
        generalize grow (redrawn wr dq) osq = w9 at *
        clear hb
        first
        | (go_wp2
           go_ret
           exact ⟨ret_bool (by rw [HNO.out HHH.out]), BV.out.1⟩)
        | (go_wp2
           go_roundw
           case rel => exact ⟨k + 1, by omega, by go_num, BV, (show Hid _ from by show _ = _; rw [HNX.out, AN.out, HHH.out]; rfl)⟩
           case measure => simp [intOf]; omega)
    · have hge : ¬ (k : Int) < (kids.length : Int) := by omega
      have HR : Hid (kids.all q = true) := by
        have := AN.out
        rw [List.take_of_length_le (by omega)] at this
        exact this
      go_wp2
      go_ret
      exact ⟨ret_bool HR.out.symm, BW.out.1⟩
set_option maxRecDepth 100000 in
set_option maxHeartbeats 8000000 in
theorem inside_p3r (g : Bool) (x0 x1 x2 x3 b : Int) (s : ByteArray) (la : Option Addr) (lc : Nat) (ka : Option Addr) (m kc : Nat) (kids : List VT) (bb off : Nat) (w : World) (q : VT → Bool) (hK : Kids w la kids bb off) (hq : ∀ t ∈ kids, Qv t w) (ar : Bool) (hc : ∀ W, Below w.heap.size w W → Calls Tryz.prog 98 #[.agg #[.bool g, .int .u64 x0, .int .u64 x1, .int .u64 x2, .int .u64 x3]] W fun e w' => e = .returned (.bool true) ∧ Below W.heap.size W w')
    (ih : ∀ t ∈ kids, ∀ W, Qv t W → Calls Tryz.prog 44 #[t.val, .int .i64 3, .bool true, .bool false] W fun e w' => e = .returned (.bool (q t)) ∧ Below W.heap.size W w') :
    Calls Tryz.prog 44 #[V10 3 g x0 x1 x2 x3 b s la kids.length lc ka m kc, .int .i64 3, .bool true, .bool ar] w fun e w' => e = .returned (.bool (kids.all q)) ∧ Below w.heap.size w w' := by
  have hn := hK.len
  have HK := Lib.hid hK; have HI := Lib.hid ih; have HQ := Lib.hid hq
  clear hK ih hq
  have HC := Lib.hid hc; clear hc
  cases ar
  all_goals
    go_enter Tryz.func44, Tryz.ntmps44
    have X0 := Lib.hid (And.intro (bal (Below.refl w.heap.size w) (.cells #[.int .i64 3, .bool g, .int .u64 x0, .int .u64 x1, .int .u64 x2, .int .u64 x3, .int .u64 b, .string s, .slice la kids.length lc, .slice ka m kc] 31)) (Row10.new w (.int .i64 3) (.bool g) (.int .u64 x0) (.int .u64 x1) (.int .u64 x2) (.int .u64 x3) (.int .u64 b) (.string s) (.slice la kids.length lc) (.slice ka m kc)))
    go_wp2_with fail
    ((with_reducible refine (HC.out _ X0.out.1).mono ?_); rintro e w1 ⟨rfl, hb⟩)
    have X1 := Lib.hid (And.intro (btr X0.out.1 hb) (Row10.keep hb X0.out.2))
    clear hb X0
    obtain ⟨p0, p1, p2, p3, p4, p5, p6, p7, p8, p9⟩ := X1.out.2.parts
    go_wp2
    clear p0 p1 p2 p3 p4 p5 p6 p7 p8 p9
    go_loopw [9] (fun i wr => ∃ k : Nat, k ≤ kids.length ∧ i = .int .i64 k ∧ Hid (Below w.heap.size w wr ∧ Row10 wr w.heap.size (.int .i64 3) (.bool g) (.int .u64 x0) (.int .u64 x1) (.int .u64 x2) (.int .u64 x3) (.int .u64 b) (.string s) (.slice la kids.length lc) (.slice ka m kc)) ∧ Hid ((kids.take k).all q = true)) (fun i _ => kids.length - (intOf i).toNat)
    case atStart => exact ⟨0, Nat.zero_le _, rfl, X1.out, (show Hid _ from by show _ = _; simp)⟩
    case round =>
      obtain ⟨k, hk, rfl, BW, AN⟩ := hrel
      obtain ⟨p0, p1, p2, p3, p4, p5, p6, p7, p8, p9⟩ := BW.out.2.parts
      clear X1
      by_cases hlt : k < kids.length
      · obtain ⟨t, ht, hm⟩ := kid_at hlt
        have hr := (HK.out.cells k t ht).keep BW.out.1
        obtain rfl : la = some ⟨bb, off, none⟩ := HK.out.la (by omega)
        have hti := (HQ.out t hm).keep BW.out.1
        have hcall := HI.out t hm
        have hnx := all_take_next (p := q) ht
        have hno := all_no (p := q) hm
        obtain ⟨o2, l2⟩ := t
        obtain ⟨kd2, g2, x2', b2, s2, la2, lc2, ka2, kc2, ks2⟩ := o2
        simp only [VT.val, VT.cells, VT.o_mk, VT.kids_mk] at hcall
        obtain ⟨c0, c1, c2, c3, c4, c5, c6, c7, c8, c9⟩ := hr.ten
        clear hr
        have hlt2 : (k : Int) < (kids.length : Int) := by omega
        generalize hTT : VT.mk ⟨kd2, g2, x2', b2, s2, la2, lc2, ka2, kc2, ks2⟩ l2 = T at *
        have HTI := Lib.hid hti; have HCALL := Lib.hid hcall; have HNX := Lib.hid hnx; have HNO := Lib.hid hno
        clear hti hcall hnx hno ht hTT
        cases hh : q T
        all_goals
          rw [hh] at HCALL
          have HHH := Lib.hid hh
          clear hh
          have cq0 := fun (d : Nat) (os : Array Obj) => Calls.regrown_of (w := wr) (d := d) (os := os) (HCALL.out _ (HTI.out.keep (below_regrown wr d os)))
          go_upto_region 10 with (fail)
          have r0 := cell_regrown p0; have r8 := cell_regrown p8
          have s0 := cell_regrown c0; have s1 := cell_regrown c1; have s2' := cell_regrown c2; have s3 := cell_regrown c3; have s4 := cell_regrown c4; have s5 := cell_regrown c5; have s6 := cell_regrown c6; have s7 := cell_regrown c7; have s8 := cell_regrown c8; have s9 := cell_regrown c9
          clear p0 p1 p2 p3 p4 p5 p6 p7 p8 p9 c0 c1 c2 c3 c4 c5 c6 c7 c8 c9
          refine wp_region_quiet_below (by kernel_rfl) (by kernel_rfl) ?_
          repeat (first | go_big_quiet_step ((with_reducible exact cq0 _ _)) | quiet_step (with_reducible exact cq0 _ _))
          refine wpQuiet_nil ?_
          intro _ hw'
          obtain ⟨⟨dq, osq⟩, hw''⟩ := hw'
          subst hw''
          have hb := below_regrown wr dq osq
          clear r0 r8 s0 s1 s2' s3 s4 s5 s6 s7 s8 s9 cq0
          have BV : Hid (Below w.heap.size w (grow (redrawn wr dq) osq) ∧ Row10 (grow (redrawn wr dq) osq) w.heap.size (.int .i64 3) (.bool g) (.int .u64 x0) (.int .u64 x1) (.int .u64 x2) (.int .u64 x3) (.int .u64 b) (.string s) (.slice (some ⟨bb, off, none⟩) kids.length lc) (.slice ka m kc)) := ⟨btr BW.out.1 hb, BW.out.2.keep hb⟩
          generalize grow (redrawn wr dq) osq = w9 at *
          clear hb
          first
          | (go_wp2
             go_ret
             exact ⟨ret_bool (by rw [HNO.out HHH.out]), BV.out.1⟩)
          | (go_wp2
             go_roundw
             case rel => exact ⟨k + 1, by omega, by go_num, BV, (show Hid _ from by show _ = _; rw [HNX.out, AN.out, HHH.out]; rfl)⟩
             case measure => simp [intOf]; omega)
      · have hge : ¬ (k : Int) < (kids.length : Int) := by omega
        have HR : Hid (kids.all q = true) := by
          have := AN.out
          rw [List.take_of_length_le (by omega)] at this
          exact this
        go_wp2
        go_ret
        exact ⟨ret_bool HR.out.symm, BW.out.1⟩
set_option maxRecDepth 100000 in
set_option maxHeartbeats 8000000 in
theorem inside_p3x (g : Bool) (x0 x1 x2 x3 b : Int) (s : ByteArray) (la : Option Addr) (lc : Nat) (ka : Option Addr) (m kc : Nat) (kids : List VT) (bb off : Nat) (w : World) (q : VT → Bool) (hK : Kids w la kids bb off) (hq : ∀ t ∈ kids, Qv t w) (ar : Bool) (hc : ∀ W, Below w.heap.size w W → Calls Tryz.prog 98 #[.agg #[.bool g, .int .u64 x0, .int .u64 x1, .int .u64 x2, .int .u64 x3]] W fun e w' => e = .returned (.bool false) ∧ Below W.heap.size W w') (hx : ∀ W, Below w.heap.size w W → Calls Tryz.prog 99 #[.agg #[.bool g, .int .u64 x0, .int .u64 x1, .int .u64 x2, .int .u64 x3]] W fun e w' => e = .returned (.bool true) ∧ Below W.heap.size W w')
    (ih : ∀ t ∈ kids, ∀ W, Qv t W → Calls Tryz.prog 44 #[t.val, .int .i64 3, .bool true, .bool false] W fun e w' => e = .returned (.bool (q t)) ∧ Below W.heap.size W w') :
    Calls Tryz.prog 44 #[V10 3 g x0 x1 x2 x3 b s la kids.length lc ka m kc, .int .i64 3, .bool true, .bool ar] w fun e w' => e = .returned (.bool (kids.all q)) ∧ Below w.heap.size w w' := by
  have hn := hK.len
  have HK := Lib.hid hK; have HI := Lib.hid ih; have HQ := Lib.hid hq
  clear hK ih hq
  have HC := Lib.hid hc; clear hc
  have HX := Lib.hid hx; clear hx
  cases ar
  all_goals
    go_enter Tryz.func44, Tryz.ntmps44
    have X0 := Lib.hid (And.intro (bal (Below.refl w.heap.size w) (.cells #[.int .i64 3, .bool g, .int .u64 x0, .int .u64 x1, .int .u64 x2, .int .u64 x3, .int .u64 b, .string s, .slice la kids.length lc, .slice ka m kc] 31)) (Row10.new w (.int .i64 3) (.bool g) (.int .u64 x0) (.int .u64 x1) (.int .u64 x2) (.int .u64 x3) (.int .u64 b) (.string s) (.slice la kids.length lc) (.slice ka m kc)))
    go_wp2_with fail
    ((with_reducible refine (HC.out _ X0.out.1).mono ?_); rintro e w1 ⟨rfl, hb⟩)
    have X1 := Lib.hid (And.intro (btr X0.out.1 hb) (Row10.keep hb X0.out.2))
    clear hb X0
    obtain ⟨p0, p1, p2, p3, p4, p5, p6, p7, p8, p9⟩ := X1.out.2.parts
    go_wp2_with fail
    ((with_reducible refine (HX.out _ X1.out.1).mono ?_); rintro e w2 ⟨rfl, hb⟩)
    have X2 := Lib.hid (And.intro (btr X1.out.1 hb) (Row10.keep hb X1.out.2))
    clear hb X1 p0 p1 p2 p3 p4 p5 p6 p7 p8 p9
    obtain ⟨p0, p1, p2, p3, p4, p5, p6, p7, p8, p9⟩ := X2.out.2.parts
    go_wp2
    clear p0 p1 p2 p3 p4 p5 p6 p7 p8 p9
    go_loopw [9] (fun i wr => ∃ k : Nat, k ≤ kids.length ∧ i = .int .i64 k ∧ Hid (Below w.heap.size w wr ∧ Row10 wr w.heap.size (.int .i64 3) (.bool g) (.int .u64 x0) (.int .u64 x1) (.int .u64 x2) (.int .u64 x3) (.int .u64 b) (.string s) (.slice la kids.length lc) (.slice ka m kc)) ∧ Hid ((kids.take k).all q = true)) (fun i _ => kids.length - (intOf i).toNat)
    case atStart => exact ⟨0, Nat.zero_le _, rfl, X2.out, (show Hid _ from by show _ = _; simp)⟩
    case round =>
      obtain ⟨k, hk, rfl, BW, AN⟩ := hrel
      obtain ⟨p0, p1, p2, p3, p4, p5, p6, p7, p8, p9⟩ := BW.out.2.parts
      clear X2
      by_cases hlt : k < kids.length
      · obtain ⟨t, ht, hm⟩ := kid_at hlt
        have hr := (HK.out.cells k t ht).keep BW.out.1
        obtain rfl : la = some ⟨bb, off, none⟩ := HK.out.la (by omega)
        have hti := (HQ.out t hm).keep BW.out.1
        have hcall := HI.out t hm
        have hnx := all_take_next (p := q) ht
        have hno := all_no (p := q) hm
        obtain ⟨o2, l2⟩ := t
        obtain ⟨kd2, g2, x2', b2, s2, la2, lc2, ka2, kc2, ks2⟩ := o2
        simp only [VT.val, VT.cells, VT.o_mk, VT.kids_mk] at hcall
        obtain ⟨c0, c1, c2, c3, c4, c5, c6, c7, c8, c9⟩ := hr.ten
        clear hr
        have hlt2 : (k : Int) < (kids.length : Int) := by omega
        generalize hTT : VT.mk ⟨kd2, g2, x2', b2, s2, la2, lc2, ka2, kc2, ks2⟩ l2 = T at *
        have HTI := Lib.hid hti; have HCALL := Lib.hid hcall; have HNX := Lib.hid hnx; have HNO := Lib.hid hno
        clear hti hcall hnx hno ht hTT
        cases hh : q T
        all_goals
          rw [hh] at HCALL
          have HHH := Lib.hid hh
          clear hh
          have cq0 := fun (d : Nat) (os : Array Obj) => Calls.regrown_of (w := wr) (d := d) (os := os) (HCALL.out _ (HTI.out.keep (below_regrown wr d os)))
          go_upto_region 10 with (fail)
          have r0 := cell_regrown p0; have r8 := cell_regrown p8
          have s0 := cell_regrown c0; have s1 := cell_regrown c1; have s2' := cell_regrown c2; have s3 := cell_regrown c3; have s4 := cell_regrown c4; have s5 := cell_regrown c5; have s6 := cell_regrown c6; have s7 := cell_regrown c7; have s8 := cell_regrown c8; have s9 := cell_regrown c9
          clear p0 p1 p2 p3 p4 p5 p6 p7 p8 p9 c0 c1 c2 c3 c4 c5 c6 c7 c8 c9
          refine wp_region_quiet_below (by kernel_rfl) (by kernel_rfl) ?_
          repeat (first | go_big_quiet_step ((with_reducible exact cq0 _ _)) | quiet_step (with_reducible exact cq0 _ _))
          refine wpQuiet_nil ?_
          intro _ hw'
          obtain ⟨⟨dq, osq⟩, hw''⟩ := hw'
          subst hw''
          have hb := below_regrown wr dq osq
          clear r0 r8 s0 s1 s2' s3 s4 s5 s6 s7 s8 s9 cq0
          have BV : Hid (Below w.heap.size w (grow (redrawn wr dq) osq) ∧ Row10 (grow (redrawn wr dq) osq) w.heap.size (.int .i64 3) (.bool g) (.int .u64 x0) (.int .u64 x1) (.int .u64 x2) (.int .u64 x3) (.int .u64 b) (.string s) (.slice (some ⟨bb, off, none⟩) kids.length lc) (.slice ka m kc)) := ⟨btr BW.out.1 hb, BW.out.2.keep hb⟩
          generalize grow (redrawn wr dq) osq = w9 at *
          clear hb
          first
          | (go_wp2
             go_ret
             exact ⟨ret_bool (by rw [HNO.out HHH.out]), BV.out.1⟩)
          | (go_wp2
             go_roundw
             case rel => exact ⟨k + 1, by omega, by go_num, BV, (show Hid _ from by show _ = _; rw [HNX.out, AN.out, HHH.out]; rfl)⟩
             case measure => simp [intOf]; omega)
      · have hge : ¬ (k : Int) < (kids.length : Int) := by omega
        have HR : Hid (kids.all q = true) := by
          have := AN.out
          rw [List.take_of_length_le (by omega)] at this
          exact this
        go_wp2
        go_ret
        exact ⟨ret_bool HR.out.symm, BW.out.1⟩
set_option maxRecDepth 100000 in
set_option maxHeartbeats 8000000 in
theorem inside_p7 (g : Bool) (x0 x1 x2 x3 b : Int) (s : ByteArray) (la : Option Addr) (lc : Nat) (ka : Option Addr) (m kc : Nat) (kids : List VT) (bb off : Nat) (w : World) (q : VT → Bool) (hK : Kids w la kids bb off) (hq : ∀ t ∈ kids, Qv t w) 
    (ih : ∀ t ∈ kids, ∀ W, Qv t W → Calls Tryz.prog 44 #[t.val, .int .i64 3, .bool true, .bool true] W fun e w' => e = .returned (.bool (q t)) ∧ Below W.heap.size W w') :
    Calls Tryz.prog 44 #[V10 7 g x0 x1 x2 x3 b s la kids.length lc ka m kc, .int .i64 3, .bool true, .bool false] w fun e w' => e = .returned (.bool (kids.all q)) ∧ Below w.heap.size w w' := by
  have hn := hK.len
  have HK := Lib.hid hK; have HI := Lib.hid ih; have HQ := Lib.hid hq
  clear hK ih hq
  go_enter Tryz.func44, Tryz.ntmps44
  have X0 := Lib.hid (And.intro (bal (Below.refl w.heap.size w) (.cells #[.int .i64 7, .bool g, .int .u64 x0, .int .u64 x1, .int .u64 x2, .int .u64 x3, .int .u64 b, .string s, .slice la kids.length lc, .slice ka m kc] 31)) (Row10.new w (.int .i64 7) (.bool g) (.int .u64 x0) (.int .u64 x1) (.int .u64 x2) (.int .u64 x3) (.int .u64 b) (.string s) (.slice la kids.length lc) (.slice ka m kc)))
  go_wp2
  go_loopw [9] (fun i wr => ∃ k : Nat, k ≤ kids.length ∧ i = .int .i64 k ∧ Hid (Below w.heap.size w wr ∧ Row10 wr w.heap.size (.int .i64 7) (.bool g) (.int .u64 x0) (.int .u64 x1) (.int .u64 x2) (.int .u64 x3) (.int .u64 b) (.string s) (.slice la kids.length lc) (.slice ka m kc)) ∧ Hid ((kids.take k).all q = true)) (fun i _ => kids.length - (intOf i).toNat)
  case atStart => exact ⟨0, Nat.zero_le _, rfl, X0.out, (show Hid _ from by show _ = _; simp)⟩
  case round =>
    obtain ⟨k, hk, rfl, BW, AN⟩ := hrel
    obtain ⟨p0, p1, p2, p3, p4, p5, p6, p7, p8, p9⟩ := BW.out.2.parts
    clear X0
    by_cases hlt : k < kids.length
    · obtain ⟨t, ht, hm⟩ := kid_at hlt
      have hr := (HK.out.cells k t ht).keep BW.out.1
      obtain rfl : la = some ⟨bb, off, none⟩ := HK.out.la (by omega)
      have hti := (HQ.out t hm).keep BW.out.1
      have hcall := HI.out t hm
      have hnx := all_take_next (p := q) ht
      have hno := all_no (p := q) hm
      obtain ⟨o2, l2⟩ := t
      obtain ⟨kd2, g2, x2', b2, s2, la2, lc2, ka2, kc2, ks2⟩ := o2
      simp only [VT.val, VT.cells, VT.o_mk, VT.kids_mk] at hcall
      obtain ⟨c0, c1, c2, c3, c4, c5, c6, c7, c8, c9⟩ := hr.ten
      clear hr
      have hlt2 : (k : Int) < (kids.length : Int) := by omega
      generalize hTT : VT.mk ⟨kd2, g2, x2', b2, s2, la2, lc2, ka2, kc2, ks2⟩ l2 = T at *
      have HTI := Lib.hid hti; have HCALL := Lib.hid hcall; have HNX := Lib.hid hnx; have HNO := Lib.hid hno
      clear hti hcall hnx hno ht hTT
      cases hh : q T
      all_goals
        rw [hh] at HCALL
        have HHH := Lib.hid hh
        clear hh
        have cq0 := fun (d : Nat) (os : Array Obj) => Calls.regrown_of (w := wr) (d := d) (os := os) (HCALL.out _ (HTI.out.keep (below_regrown wr d os)))
        go_upto_region 10 with (fail)
        have r0 := cell_regrown p0; have r8 := cell_regrown p8
        have s0 := cell_regrown c0; have s1 := cell_regrown c1; have s2' := cell_regrown c2; have s3 := cell_regrown c3; have s4 := cell_regrown c4; have s5 := cell_regrown c5; have s6 := cell_regrown c6; have s7 := cell_regrown c7; have s8 := cell_regrown c8; have s9 := cell_regrown c9
        clear p0 p1 p2 p3 p4 p5 p6 p7 p8 p9 c0 c1 c2 c3 c4 c5 c6 c7 c8 c9
        refine wp_region_quiet_below (by kernel_rfl) (by kernel_rfl) ?_
        repeat (first | go_big_quiet_step ((with_reducible exact cq0 _ _)) | quiet_step (with_reducible exact cq0 _ _))
        refine wpQuiet_nil ?_
        intro _ hw'
        obtain ⟨⟨dq, osq⟩, hw''⟩ := hw'
        subst hw''
        have hb := below_regrown wr dq osq
        clear r0 r8 s0 s1 s2' s3 s4 s5 s6 s7 s8 s9 cq0
        have BV : Hid (Below w.heap.size w (grow (redrawn wr dq) osq) ∧ Row10 (grow (redrawn wr dq) osq) w.heap.size (.int .i64 7) (.bool g) (.int .u64 x0) (.int .u64 x1) (.int .u64 x2) (.int .u64 x3) (.int .u64 b) (.string s) (.slice (some ⟨bb, off, none⟩) kids.length lc) (.slice ka m kc)) := ⟨btr BW.out.1 hb, BW.out.2.keep hb⟩
        generalize grow (redrawn wr dq) osq = w9 at *
        clear hb
        first
        | (go_wp2
           go_ret
           exact ⟨ret_bool (by rw [HNO.out HHH.out]), BV.out.1⟩)
        | (go_wp2
           go_roundw
           case rel => exact ⟨k + 1, by omega, by go_num, BV, (show Hid _ from by show _ = _; rw [HNX.out, AN.out, HHH.out]; rfl)⟩
           case measure => simp [intOf]; omega)
    · have hge : ¬ (k : Int) < (kids.length : Int) := by omega
      have HR : Hid (kids.all q = true) := by
        have := AN.out
        rw [List.take_of_length_le (by omega)] at this
        exact this
      go_wp2
      go_ret
      exact ⟨ret_bool HR.out.symm, BW.out.1⟩
set_option maxRecDepth 100000 in
set_option maxHeartbeats 8000000 in
theorem inside_p8 (g : Bool) (x0 x1 x2 x3 b : Int) (s : ByteArray) (la : Option Addr) (lc : Nat) (ka : Option Addr) (m kc : Nat) (kids : List VT) (bb off : Nat) (w : World) (q : VT → Bool) (hK : Kids w la kids bb off) (hq : ∀ t ∈ kids, Qv t w) (be ar : Bool)
    (ih : ∀ t ∈ kids, ∀ W, Qv t W → Calls Tryz.prog 44 #[t.val, .int .i64 3, .bool true, .bool false] W fun e w' => e = .returned (.bool (q t)) ∧ Below W.heap.size W w') :
    Calls Tryz.prog 44 #[V10 8 g x0 x1 x2 x3 b s la kids.length lc ka m kc, .int .i64 3, .bool be, .bool ar] w fun e w' => e = .returned (.bool (kids.all q)) ∧ Below w.heap.size w w' := by
  have hn := hK.len
  have HK := Lib.hid hK; have HI := Lib.hid ih; have HQ := Lib.hid hq
  clear hK ih hq
  cases be <;> cases ar
  all_goals
    go_enter Tryz.func44, Tryz.ntmps44
    have X0 := Lib.hid (And.intro (bal (Below.refl w.heap.size w) (.cells #[.int .i64 8, .bool g, .int .u64 x0, .int .u64 x1, .int .u64 x2, .int .u64 x3, .int .u64 b, .string s, .slice la kids.length lc, .slice ka m kc] 31)) (Row10.new w (.int .i64 8) (.bool g) (.int .u64 x0) (.int .u64 x1) (.int .u64 x2) (.int .u64 x3) (.int .u64 b) (.string s) (.slice la kids.length lc) (.slice ka m kc)))
    go_wp2
    go_loopw [9] (fun i wr => ∃ k : Nat, k ≤ kids.length ∧ i = .int .i64 k ∧ Hid (Below w.heap.size w wr ∧ Row10 wr w.heap.size (.int .i64 8) (.bool g) (.int .u64 x0) (.int .u64 x1) (.int .u64 x2) (.int .u64 x3) (.int .u64 b) (.string s) (.slice la kids.length lc) (.slice ka m kc)) ∧ Hid ((kids.take k).all q = true)) (fun i _ => kids.length - (intOf i).toNat)
    case atStart => exact ⟨0, Nat.zero_le _, rfl, X0.out, (show Hid _ from by show _ = _; simp)⟩
    case round =>
      obtain ⟨k, hk, rfl, BW, AN⟩ := hrel
      obtain ⟨p0, p1, p2, p3, p4, p5, p6, p7, p8, p9⟩ := BW.out.2.parts
      clear X0
      by_cases hlt : k < kids.length
      · obtain ⟨t, ht, hm⟩ := kid_at hlt
        have hr := (HK.out.cells k t ht).keep BW.out.1
        obtain rfl : la = some ⟨bb, off, none⟩ := HK.out.la (by omega)
        have hti := (HQ.out t hm).keep BW.out.1
        have hcall := HI.out t hm
        have hnx := all_take_next (p := q) ht
        have hno := all_no (p := q) hm
        obtain ⟨o2, l2⟩ := t
        obtain ⟨kd2, g2, x2', b2, s2, la2, lc2, ka2, kc2, ks2⟩ := o2
        simp only [VT.val, VT.cells, VT.o_mk, VT.kids_mk] at hcall
        obtain ⟨c0, c1, c2, c3, c4, c5, c6, c7, c8, c9⟩ := hr.ten
        clear hr
        have hlt2 : (k : Int) < (kids.length : Int) := by omega
        generalize hTT : VT.mk ⟨kd2, g2, x2', b2, s2, la2, lc2, ka2, kc2, ks2⟩ l2 = T at *
        have HTI := Lib.hid hti; have HCALL := Lib.hid hcall; have HNX := Lib.hid hnx; have HNO := Lib.hid hno
        clear hti hcall hnx hno ht hTT
        cases hh : q T
        all_goals
          rw [hh] at HCALL
          have HHH := Lib.hid hh
          clear hh
          have cq0 := fun (d : Nat) (os : Array Obj) => Calls.regrown_of (w := wr) (d := d) (os := os) (HCALL.out _ (HTI.out.keep (below_regrown wr d os)))
          go_upto_region 10 with (fail)
          have r0 := cell_regrown p0; have r8 := cell_regrown p8
          have s0 := cell_regrown c0; have s1 := cell_regrown c1; have s2' := cell_regrown c2; have s3 := cell_regrown c3; have s4 := cell_regrown c4; have s5 := cell_regrown c5; have s6 := cell_regrown c6; have s7 := cell_regrown c7; have s8 := cell_regrown c8; have s9 := cell_regrown c9
          clear p0 p1 p2 p3 p4 p5 p6 p7 p8 p9 c0 c1 c2 c3 c4 c5 c6 c7 c8 c9
          refine wp_region_quiet_below (by kernel_rfl) (by kernel_rfl) ?_
          repeat (first | go_big_quiet_step ((with_reducible exact cq0 _ _)) | quiet_step (with_reducible exact cq0 _ _))
          refine wpQuiet_nil ?_
          intro _ hw'
          obtain ⟨⟨dq, osq⟩, hw''⟩ := hw'
          subst hw''
          have hb := below_regrown wr dq osq
          clear r0 r8 s0 s1 s2' s3 s4 s5 s6 s7 s8 s9 cq0
          have BV : Hid (Below w.heap.size w (grow (redrawn wr dq) osq) ∧ Row10 (grow (redrawn wr dq) osq) w.heap.size (.int .i64 8) (.bool g) (.int .u64 x0) (.int .u64 x1) (.int .u64 x2) (.int .u64 x3) (.int .u64 b) (.string s) (.slice (some ⟨bb, off, none⟩) kids.length lc) (.slice ka m kc)) := ⟨btr BW.out.1 hb, BW.out.2.keep hb⟩
          generalize grow (redrawn wr dq) osq = w9 at *
          clear hb
          first
          | (go_wp2
             go_ret
             exact ⟨ret_bool (by rw [HNO.out HHH.out]), BV.out.1⟩)
          | (go_wp2
             go_roundw
             case rel => exact ⟨k + 1, by omega, by go_num, BV, (show Hid _ from by show _ = _; rw [HNX.out, AN.out, HHH.out]; rfl)⟩
             case measure => simp [intOf]; omega)
      · have hge : ¬ (k : Int) < (kids.length : Int) := by omega
        have HR : Hid (kids.all q = true) := by
          have := AN.out
          rw [List.take_of_length_le (by omega)] at this
          exact this
        go_wp2
        go_ret
        exact ⟨ret_bool HR.out.symm, BW.out.1⟩
set_option maxRecDepth 100000 in
set_option maxHeartbeats 8000000 in
theorem inside_pg (g : Bool) (x0 x1 x2 x3 b : Int) (s : ByteArray) (la : Option Addr) (lc : Nat) (ka : Option Addr) (m kc : Nat) (kids : List VT) (bb off : Nat) (w : World) (q : VT → Bool) (hK : Kids w la kids bb off) (hq : ∀ t ∈ kids, Qv t w) (ar : Bool) (kd : Int) (h1 : (kd == 1) = false) (h3 : (kd == 3) = false) (h7 : (kd == 7) = false)
    (ih : ∀ t ∈ kids, ∀ W, Qv t W → Calls Tryz.prog 44 #[t.val, .int .i64 3, .bool true, .bool false] W fun e w' => e = .returned (.bool (q t)) ∧ Below W.heap.size W w') :
    Calls Tryz.prog 44 #[V10 kd g x0 x1 x2 x3 b s la kids.length lc ka m kc, .int .i64 3, .bool true, .bool ar] w fun e w' => e = .returned (.bool (kids.all q)) ∧ Below w.heap.size w w' := by
  have hn := hK.len
  have HK := Lib.hid hK; have HI := Lib.hid ih; have HQ := Lib.hid hq
  clear hK ih hq
  cases ar
  all_goals
    go_enter Tryz.func44, Tryz.ntmps44
    have X0 := Lib.hid (And.intro (bal (Below.refl w.heap.size w) (.cells #[.int .i64 kd, .bool g, .int .u64 x0, .int .u64 x1, .int .u64 x2, .int .u64 x3, .int .u64 b, .string s, .slice la kids.length lc, .slice ka m kc] 31)) (Row10.new w (.int .i64 kd) (.bool g) (.int .u64 x0) (.int .u64 x1) (.int .u64 x2) (.int .u64 x3) (.int .u64 b) (.string s) (.slice la kids.length lc) (.slice ka m kc)))
    go_wp2
    go_loopw [9] (fun i wr => ∃ k : Nat, k ≤ kids.length ∧ i = .int .i64 k ∧ Hid (Below w.heap.size w wr ∧ Row10 wr w.heap.size (.int .i64 kd) (.bool g) (.int .u64 x0) (.int .u64 x1) (.int .u64 x2) (.int .u64 x3) (.int .u64 b) (.string s) (.slice la kids.length lc) (.slice ka m kc)) ∧ Hid ((kids.take k).all q = true)) (fun i _ => kids.length - (intOf i).toNat)
    case atStart => exact ⟨0, Nat.zero_le _, rfl, X0.out, (show Hid _ from by show _ = _; simp)⟩
    case round =>
      obtain ⟨k, hk, rfl, BW, AN⟩ := hrel
      obtain ⟨p0, p1, p2, p3, p4, p5, p6, p7, p8, p9⟩ := BW.out.2.parts
      clear X0
      by_cases hlt : k < kids.length
      · obtain ⟨t, ht, hm⟩ := kid_at hlt
        have hr := (HK.out.cells k t ht).keep BW.out.1
        obtain rfl : la = some ⟨bb, off, none⟩ := HK.out.la (by omega)
        have hti := (HQ.out t hm).keep BW.out.1
        have hcall := HI.out t hm
        have hnx := all_take_next (p := q) ht
        have hno := all_no (p := q) hm
        obtain ⟨o2, l2⟩ := t
        obtain ⟨kd2, g2, x2', b2, s2, la2, lc2, ka2, kc2, ks2⟩ := o2
        simp only [VT.val, VT.cells, VT.o_mk, VT.kids_mk] at hcall
        obtain ⟨c0, c1, c2, c3, c4, c5, c6, c7, c8, c9⟩ := hr.ten
        clear hr
        have hlt2 : (k : Int) < (kids.length : Int) := by omega
        generalize hTT : VT.mk ⟨kd2, g2, x2', b2, s2, la2, lc2, ka2, kc2, ks2⟩ l2 = T at *
        have HTI := Lib.hid hti; have HCALL := Lib.hid hcall; have HNX := Lib.hid hnx; have HNO := Lib.hid hno
        clear hti hcall hnx hno ht hTT
        cases hh : q T
        all_goals
          rw [hh] at HCALL
          have HHH := Lib.hid hh
          clear hh
          have cq0 := fun (d : Nat) (os : Array Obj) => Calls.regrown_of (w := wr) (d := d) (os := os) (HCALL.out _ (HTI.out.keep (below_regrown wr d os)))
          go_upto_region 10 with (fail)
          have r0 := cell_regrown p0; have r8 := cell_regrown p8
          have s0 := cell_regrown c0; have s1 := cell_regrown c1; have s2' := cell_regrown c2; have s3 := cell_regrown c3; have s4 := cell_regrown c4; have s5 := cell_regrown c5; have s6 := cell_regrown c6; have s7 := cell_regrown c7; have s8 := cell_regrown c8; have s9 := cell_regrown c9
          clear p0 p1 p2 p3 p4 p5 p6 p7 p8 p9 c0 c1 c2 c3 c4 c5 c6 c7 c8 c9
          refine wp_region_quiet_below (by kernel_rfl) (by kernel_rfl) ?_
          repeat (first | go_big_quiet_step ((with_reducible exact cq0 _ _)) | quiet_step (with_reducible exact cq0 _ _))
          refine wpQuiet_nil ?_
          intro _ hw'
          obtain ⟨⟨dq, osq⟩, hw''⟩ := hw'
          subst hw''
          have hb := below_regrown wr dq osq
          clear r0 r8 s0 s1 s2' s3 s4 s5 s6 s7 s8 s9 cq0
          have BV : Hid (Below w.heap.size w (grow (redrawn wr dq) osq) ∧ Row10 (grow (redrawn wr dq) osq) w.heap.size (.int .i64 kd) (.bool g) (.int .u64 x0) (.int .u64 x1) (.int .u64 x2) (.int .u64 x3) (.int .u64 b) (.string s) (.slice (some ⟨bb, off, none⟩) kids.length lc) (.slice ka m kc)) := ⟨btr BW.out.1 hb, BW.out.2.keep hb⟩
          generalize grow (redrawn wr dq) osq = w9 at *
          clear hb
          first
          | (go_wp2
             go_ret
             exact ⟨ret_bool (by rw [HNO.out HHH.out]), BV.out.1⟩)
          | (go_wp2
             go_roundw
             case rel => exact ⟨k + 1, by omega, by go_num, BV, (show Hid _ from by show _ = _; rw [HNX.out, AN.out, HHH.out]; rfl)⟩
             case measure => simp [intOf]; omega)
      · have hge : ¬ (k : Int) < (kids.length : Int) := by omega
        have HR : Hid (kids.all q = true) := by
          have := AN.out
          rw [List.take_of_length_le (by omega)] at this
          exact this
        go_wp2
        go_ret
        exact ⟨ret_bool HR.out.symm, BW.out.1⟩
end Go.Proofs.YtgklokjilfeklaaGreatDoor
