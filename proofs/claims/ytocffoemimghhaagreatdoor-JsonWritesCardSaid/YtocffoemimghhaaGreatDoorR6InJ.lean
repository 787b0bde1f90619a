/-
  entrepotref6.In at JSON, for every value that is few: what value.In answers.
-/
import Derived.Test.YtocffoemimghhaaGreatDoorGR
import Derived.Test.YtocffoemimghhaaGreatDoorGB
import Derived.Test.YtocffoemimghhaaGreatDoorValIn
import Derived.Lib.QuietBelow
import Derived.BigQuiet
namespace Go.Proofs.YtocffoemimghhaaGreatDoor
open Go.RowKit Go.Shelf
open Go.Sort (grow)

set_option maxRecDepth 100000 in
set_option maxHeartbeats 2000000 in
theorem jinside_6 (g : Bool) (x0 x1 x2 x3 b : Int) (s : ByteArray) (la : Option Addr) (lc : Nat) (ka : Option Addr) (m kc : Nat) (kids : List VT) (w : World) (be ar : Bool) :
    Calls Tryz.prog 37 #[V10 6 g x0 x1 x2 x3 b s la kids.length lc ka m kc, .int .i64 1, .bool be, .bool ar] w fun e w' => e = .returned (.bool false) ∧ Below w.heap.size w w' := by
  go_enter Tryz.func37, Tryz.ntmps37
  go_wp2
  go_ret
  exact ⟨rfl, bal (Below.refl _ _) _⟩
set_option maxRecDepth 100000 in
set_option maxHeartbeats 2000000 in
theorem jinside_4 (g : Bool) (x0 x1 x2 x3 b : Int) (s : ByteArray) (la : Option Addr) (lc : Nat) (ka : Option Addr) (m kc : Nat) (kids : List VT) (w : World) (be ar : Bool) (c : Int) (hcc : (c != 1) = true) (hc : ∀ W, Below w.heap.size w W → Calls Tryz.prog 66 #[.int .u64 b] W fun e w' => e = .returned (.int .i64 c) ∧ Below W.heap.size W w') :
    Calls Tryz.prog 37 #[V10 4 g x0 x1 x2 x3 b s la kids.length lc ka m kc, .int .i64 1, .bool be, .bool ar] w fun e w' => e = .returned (.bool false) ∧ Below w.heap.size w w' := by
  have HC := Lib.hid hc; clear hc
  go_enter Tryz.func37, Tryz.ntmps37
  go_wp2_with (go_at_call 66; ((with_reducible refine (HC.out _ (bal (Below.refl _ _) _)).mono ?_); rintro e w1 ⟨rfl, hb1⟩))
  go_ret
  exact ⟨rfl, by first | exact btr (bal (Below.refl _ _) _) (by assumption) | exact bal (Below.refl _ _) _⟩
theorem jall_take_next {kids : List VT} {k : Nat} {t : VT} {p : VT → Bool} (h : kids[k]? = some t) : (kids.take (k + 1)).all p = ((kids.take k).all p && p t) := by
  rw [take_next h, List.all_append]; simp
theorem jall_no {kids : List VT} {t : VT} {p : VT → Bool} (h : t ∈ kids) (hp : p t = false) : kids.all p = false := by
  rw [Bool.eq_false_iff]
  intro ha
  rw [List.all_eq_true.1 ha t h] at hp
  cases hp
set_option maxRecDepth 100000 in
set_option maxHeartbeats 8000000 in
theorem jinside_4g (g : Bool) (x0 x1 x2 x3 b : Int) (s : ByteArray) (la : Option Addr) (lc : Nat) (ka : Option Addr) (m kc : Nat) (kids : List VT) (bb off : Nat) (w : World) (q : VT → Bool) (hK : Kids w la kids bb off) (hq : ∀ t ∈ kids, Qv t w) (be ar : Bool) (c : Int) (hcc : (c != 1) = false) (hc : ∀ W, Below w.heap.size w W → Calls Tryz.prog 66 #[.int .u64 b] W fun e w' => e = .returned (.int .i64 c) ∧ Below W.heap.size W w')
    (ih : ∀ t ∈ kids, ∀ W, Qv t W → Calls Tryz.prog 37 #[t.val, .int .i64 1, .bool true, .bool false] W fun e w' => e = .returned (.bool (q t)) ∧ Below W.heap.size W w') :
    Calls Tryz.prog 37 #[V10 4 g x0 x1 x2 x3 b s la kids.length lc ka m kc, .int .i64 1, .bool be, .bool ar] w fun e w' => e = .returned (.bool (kids.all q)) ∧ Below w.heap.size w w' := by
  have hn := hK.len
  have HK := Lib.hid hK; have HI := Lib.hid ih; have HQ := Lib.hid hq
  clear hK ih hq
  have HC := Lib.hid hc; clear hc
  go_enter Tryz.func37, Tryz.ntmps37
  have X0 := Lib.hid (And.intro (bal (Below.refl w.heap.size w) (.cells #[.int .i64 4, .bool g, .int .u64 x0, .int .u64 x1, .int .u64 x2, .int .u64 x3, .int .u64 b, .string s, .slice la kids.length lc, .slice ka m kc] 30)) (Row10.new w (.int .i64 4) (.bool g) (.int .u64 x0) (.int .u64 x1) (.int .u64 x2) (.int .u64 x3) (.int .u64 b) (.string s) (.slice la kids.length lc) (.slice ka m kc)))
  go_wp2_with fail
  ((with_reducible refine (HC.out _ X0.out.1).mono ?_); rintro e w1 ⟨rfl, hb⟩)
  have X1 := Lib.hid (And.intro (btr X0.out.1 hb) (Row10.keep hb X0.out.2))
  clear hb X0
  obtain ⟨p0, p1, p2, p3, p4, p5, p6, p7, p8, p9⟩ := X1.out.2.parts
  go_wp2
  clear p0 p1 p2 p3 p4 p5 p6 p7 p8 p9
  go_loopw [9] (fun i wr => ∃ k : Nat, k ≤ kids.length ∧ i = .int .i64 k ∧ Hid (Below w.heap.size w wr ∧ Row10 wr w.heap.size (.int .i64 4) (.bool g) (.int .u64 x0) (.int .u64 x1) (.int .u64 x2) (.int .u64 x3) (.int .u64 b) (.string s) (.slice la kids.length lc) (.slice ka m kc)) ∧ Hid ((kids.take k).all q = true)) (fun i _ => kids.length - (intOf i).toNat)
  case atStart => exact ⟨0, Nat.zero_le _, rfl, X1.out, (show Hid _ from by show _ = _; simp)⟩
  case round =>
    obtain ⟨k, hk, rfl, BW, AN⟩ := hrel
    obtain ⟨p0, p1, p2, p3, p4, p5, p6, p7, p8, p9⟩ := BW.out.2.parts
    clear X1
    by_cases hlt : k < kids.length
    · obtain ⟨t, ht, hm⟩ := kid_at hlt
      have hr := (HK.out.cells k t ht).keep BW.out.1
      obtain rfl : la = some ⟨bb, off, none⟩ := HK.out.la (by omega)
      have hti := (HQ.out t hm).keep BW.out.1
      have hcall := HI.out t hm
      have hnx := jall_take_next (p := q) ht
      have hno := jall_no (p := q) hm
      obtain ⟨o2, l2⟩ := t
      obtain ⟨kd2, g2, x2', b2, s2, la2, lc2, ka2, kc2, ks2⟩ := o2
      simp only [VT.val, VT.cells, VT.o_mk, VT.kids_mk] at hcall
      obtain ⟨c0, c1, c2, c3, c4, c5, c6, c7, c8, c9⟩ := hr.ten
      clear hr
      have hlt2 : (k : Int) < (kids.length : Int) := by omega
      generalize hTT : VT.mk ⟨kd2, g2, x2', b2, s2, la2, lc2, ka2, kc2, ks2⟩ l2 = T at *
      have HTI := Lib.hid hti; have HCALL := Lib.hid hcall; have HNX := Lib.hid hnx; have HNO := Lib.hid hno
      clear hti hcall hnx hno ht hTT
      cases hh : q T
      all_goals
        rw [hh] at HCALL
        have HHH := Lib.hid hh
        clear hh
        have cq0 := fun (d : Nat) (os : Array Obj) => Calls.regrown_of (w := wr) (d := d) (os := os) (HCALL.out _ (HTI.out.keep (below_regrown wr d os)))
        go_upto_region 10 with (fail)
        have r0 := cell_regrown p0; have r8 := cell_regrown p8
        have s0 := cell_regrown c0; have s1 := cell_regrown c1; have s2' := cell_regrown c2; have s3 := cell_regrown c3; have s4 := cell_regrown c4; have s5 := cell_regrown c5; have s6 := cell_regrown c6; have s7 := cell_regrown c7; have s8 := cell_regrown c8; have s9 := cell_regrown c9
        clear p0 p1 p2 p3 p4 p5 p6 p7 p8 p9 c0 c1 c2 c3 c4 c5 c6 c7 c8 c9
        refine wp_region_quiet_below (by kernel_rfl) (by kernel_rfl) ?_
        repeat (first | go_big_quiet_step ((with_reducible exact cq0 _ _)) | quiet_step (with_reducible exact cq0 _ _))
        refine wpQuiet_nil ?_
        intro _ hw'
        obtain ⟨⟨dq, osq⟩, hw''⟩ := hw'
        subst hw''
        have hb := below_regrown wr dq osq
        clear r0 r8 s0 s1 s2' s3 s4 s5 s6 s7 s8 s9 cq0
        have BV : Hid (Below w.heap.size w (grow (redrawn wr dq) osq) ∧ Row10 (grow (redrawn wr dq) osq) w.heap.size (.int .i64 4) (.bool g) (.int .u64 x0) (.int .u64 x1) (.int .u64 x2) (.int .u64 x3) (.int .u64 b) (.string s) (.slice (some ⟨bb, off, none⟩) kids.length lc) (.slice ka m kc)) := ⟨btr BW.out.1 hb, BW.out.2.keep hb⟩
        generalize grow (redrawn wr dq) osq = w9 at *
        clear hb
        first
        | (go_wp2
           go_ret
           exact ⟨ret_bool (by rw [HNO.out HHH.out]), BV.out.1⟩)
        | (go_wp2
           go_roundw
           case rel => exact ⟨k + 1, by omega, by go_num, BV, (show Hid _ from by show _ = _; rw [HNX.out, AN.out, HHH.out]; rfl)⟩
           case measure => simp [intOf]; omega)
    · have hge : ¬ (k : Int) < (kids.length : Int) := by omega
      have HR : Hid (kids.all q = true) := by
        have := AN.out
        rw [List.take_of_length_le (by omega)] at this
        exact this
      go_wp2
      go_ret
      exact ⟨ret_bool HR.out.symm, BW.out.1⟩
set_option maxRecDepth 100000 in
set_option maxHeartbeats 8000000 in
theorem jinside_g (g : Bool) (x0 x1 x2 x3 b : Int) (s : ByteArray) (la : Option Addr) (lc : Nat) (ka : Option Addr) (m kc : Nat) (kids : List VT) (bb off : Nat) (w : World) (q : VT → Bool) (hK : Kids w la kids bb off) (hq : ∀ t ∈ kids, Qv t w) (be ar : Bool) (kd : Int) (h4 : (kd == 4) = false) (h6 : (kd == 6) = false) (a : Bool) (ha : (kd == 7) = a)
    (ih : ∀ t ∈ kids, ∀ W, Qv t W → Calls Tryz.prog 37 #[t.val, .int .i64 1, .bool true, .bool a] W fun e w' => e = .returned (.bool (q t)) ∧ Below W.heap.size W w') :
    Calls Tryz.prog 37 #[V10 kd g x0 x1 x2 x3 b s la kids.length lc ka m kc, .int .i64 1, .bool be, .bool ar] w fun e w' => e = .returned (.bool (kids.all q)) ∧ Below w.heap.size w w' := by
  have hn := hK.len
  have HK := Lib.hid hK; have HI := Lib.hid ih; have HQ := Lib.hid hq
  clear hK ih hq
  go_enter Tryz.func37, Tryz.ntmps37
  have X0 := Lib.hid (And.intro (bal (Below.refl w.heap.size w) (.cells #[.int .i64 kd, .bool g, .int .u64 x0, .int .u64 x1, .int .u64 x2, .int .u64 x3, .int .u64 b, .string s, .slice la kids.length lc, .slice ka m kc] 30)) (Row10.new w (.int .i64 kd) (.bool g) (.int .u64 x0) (.int .u64 x1) (.int .u64 x2) (.int .u64 x3) (.int .u64 b) (.string s) (.slice la kids.length lc) (.slice ka m kc)))
  go_wp2
  go_loopw [9] (fun i wr => ∃ k : Nat, k ≤ kids.length ∧ i = .int .i64 k ∧ Hid (Below w.heap.size w wr ∧ Row10 wr w.heap.size (.int .i64 kd) (.bool g) (.int .u64 x0) (.int .u64 x1) (.int .u64 x2) (.int .u64 x3) (.int .u64 b) (.string s) (.slice la kids.length lc) (.slice ka m kc)) ∧ Hid ((kids.take k).all q = true)) (fun i _ => kids.length - (intOf i).toNat)
  case atStart => exact ⟨0, Nat.zero_le _, rfl, X0.out, (show Hid _ from by show _ = _; simp)⟩
  case round =>
    obtain ⟨k, hk, rfl, BW, AN⟩ := hrel
    obtain ⟨p0, p1, p2, p3, p4, p5, p6, p7, p8, p9⟩ := BW.out.2.parts
    clear X0
    by_cases hlt : k < kids.length
    · obtain ⟨t, ht, hm⟩ := kid_at hlt
      have hr := (HK.out.cells k t ht).keep BW.out.1
      obtain rfl : la = some ⟨bb, off, none⟩ := HK.out.la (by omega)
      have hti := (HQ.out t hm).keep BW.out.1
      have hcall := HI.out t hm
      have hnx := jall_take_next (p := q) ht
      have hno := jall_no (p := q) hm
      obtain ⟨o2, l2⟩ := t
      obtain ⟨kd2, g2, x2', b2, s2, la2, lc2, ka2, kc2, ks2⟩ := o2
      simp only [VT.val, VT.cells, VT.o_mk, VT.kids_mk] at hcall
      obtain ⟨c0, c1, c2, c3, c4, c5, c6, c7, c8, c9⟩ := hr.ten
      clear hr
      have hlt2 : (k : Int) < (kids.length : Int) := by omega
      generalize hTT : VT.mk ⟨kd2, g2, x2', b2, s2, la2, lc2, ka2, kc2, ks2⟩ l2 = T at *
      have HTI := Lib.hid hti; have HCALL := Lib.hid hcall; have HNX := Lib.hid hnx; have HNO := Lib.hid hno
      clear hti hcall hnx hno ht hTT
      cases hh : q T
      all_goals
        rw [hh] at HCALL
        have HHH := Lib.hid hh
        clear hh
        have cq0 := fun (d : Nat) (os : Array Obj) => Calls.regrown_of (w := wr) (d := d) (os := os) (HCALL.out _ (HTI.out.keep (below_regrown wr d os)))
        go_upto_region 10 with (fail)
        have r0 := cell_regrown p0; have r8 := cell_regrown p8
        have s0 := cell_regrown c0; have s1 := cell_regrown c1; have s2' := cell_regrown c2; have s3 := cell_regrown c3; have s4 := cell_regrown c4; have s5 := cell_regrown c5; have s6 := cell_regrown c6; have s7 := cell_regrown c7; have s8 := cell_regrown c8; have s9 := cell_regrown c9
        clear p0 p1 p2 p3 p4 p5 p6 p7 p8 p9 c0 c1 c2 c3 c4 c5 c6 c7 c8 c9
        refine wp_region_quiet_below (by kernel_rfl) (by kernel_rfl) ?_
        repeat (first | go_big_quiet_step ((with_reducible exact cq0 _ _)) | quiet_step (with_reducible exact cq0 _ _))
        refine wpQuiet_nil ?_
        intro _ hw'
        obtain ⟨⟨dq, osq⟩, hw''⟩ := hw'
        subst hw''
        have hb := below_regrown wr dq osq
        clear r0 r8 s0 s1 s2' s3 s4 s5 s6 s7 s8 s9 cq0
        have BV : Hid (Below w.heap.size w (grow (redrawn wr dq) osq) ∧ Row10 (grow (redrawn wr dq) osq) w.heap.size (.int .i64 kd) (.bool g) (.int .u64 x0) (.int .u64 x1) (.int .u64 x2) (.int .u64 x3) (.int .u64 b) (.string s) (.slice (some ⟨bb, off, none⟩) kids.length lc) (.slice ka m kc)) := ⟨btr BW.out.1 hb, BW.out.2.keep hb⟩
        generalize grow (redrawn wr dq) osq = w9 at *
        clear hb
        first
        | (go_wp2
           go_ret
           exact ⟨ret_bool (by rw [HNO.out HHH.out]), BV.out.1⟩)
        | (go_wp2
           go_roundw
           case rel => exact ⟨k + 1, by omega, by go_num, BV, (show Hid _ from by show _ = _; rw [HNX.out, AN.out, HHH.out]; rfl)⟩
           case measure => simp [intOf]; omega)
    · have hge : ¬ (k : Int) < (kids.length : Int) := by omega
      have HR : Hid (kids.all q = true) := by
        have := AN.out
        rw [List.take_of_length_le (by omega)] at this
        exact this
      go_wp2
      go_ret
      exact ⟨ret_bool HR.out.symm, BW.out.1⟩
theorem inside_jany : ∀ (T : VT) (be ar : Bool) (w : World), Qv T w →
    Calls Tryz.prog 37 #[T.val, .int .i64 1, .bool be, .bool ar] w fun e w' => e = .returned (.bool (!hasT notJsonT T)) ∧ Below w.heap.size w w' := by
  intro T
  induction T using VT.ind with
  | h o kids ih =>
    intro be ar w hQ
    obtain ⟨bb, off, hK⟩ := hQ.ins.kids'
    obtain ⟨_, hx, ⟨hb0, hb1⟩, _, _⟩ := hQ.ins.wf
    have hq : ∀ t ∈ kids, Qv t w := fun t ht => hQ.kid t ht
    obtain ⟨a, ha⟩ : ∃ a, (o.kind == 7) = a := ⟨_, rfl⟩
    have ih' : ∀ t ∈ kids, ∀ W, Qv t W → Calls Tryz.prog 37 #[t.val, .int .i64 1, .bool true, .bool a] W fun e w' => e = .returned (.bool (!hasT notJsonT t)) ∧ Below W.heap.size W w' := fun t ht W hW => ih t ht true a W hW
    have hdef : notJsonT (.mk o kids) = (decide (o.kind = 6) || (decide (o.kind = 4) && (((cls o.bits.toNat : Nat) : Int) != 1))) := rfl
    have hyes : notJsonT (.mk o kids) = true → (!hasT notJsonT (.mk o kids)) = false := fun h => by rw [hasT_mk, h]; rfl
    have hno : notJsonT (.mk o kids) = false → (!hasT notJsonT (.mk o kids)) = kids.all (fun k => !hasT notJsonT k) := fun h => by
      rw [hasT_mk, h, Bool.false_or, VT.kids_mk, List.not_any_eq_all_not]
    rw [val_eq]
    obtain ⟨kd, g, x, b, s, la, lc, ka, kc, ks⟩ := o
    simp only [VT.o_mk] at hx hb0 hb1 ha ⊢
    have hcl : ∀ W, Calls Tryz.prog 66 #[.int .u64 b] W fun e w' => e = .returned (.int .i64 (cls b.toNat : Nat)) ∧ Below W.heap.size W w' := fun W => by
      have e : b = ((b.toNat : Nat) : Int) := by omega
      have := rclass b.toNat (by omega) W
      rw [← e] at this
      exact this
    have fin : ∀ {q r : Bool} {P : Prop} {e : Ending}, e = .returned (.bool q) ∧ P → q = r → e = .returned (.bool r) ∧ P := fun h1 h2 => ⟨h1.1.trans (ret_bool h2), h1.2⟩
    by_cases h6 : kd = 6
    · subst h6
      exact (jinside_6 _ _ _ _ _ _ _ _ _ _ _ _ kids w be ar).mono fun e w' h => fin h (hyes (by rw [hdef]; rfl)).symm
    by_cases h4 : kd = 4
    · subst h4
      obtain rfl : false = a := ha
      cases hc : (((cls b.toNat : Nat) : Int) != 1) with
      | true => exact (jinside_4 _ _ _ _ _ _ _ _ _ _ _ _ kids w be ar _ hc (fun W _ => hcl W)).mono fun e w' h => fin h (hyes (by rw [hdef]; simp only [hc]; rfl)).symm
      | false => exact (jinside_4g _ _ _ _ _ _ _ _ _ _ _ _ kids bb off w _ hK hq be ar _ hc (fun W _ => hcl W) ih').mono fun e w' h => fin h (hno (by rw [hdef]; simp only [hc]; rfl)).symm
    · exact (jinside_g _ _ _ _ _ _ _ _ _ _ _ _ kids bb off w _ hK hq be ar kd (beq_eq_false_iff_ne.2 h4) (beq_eq_false_iff_ne.2 h6) a ha ih').mono fun e w' h => fin h (hno (by rw [hdef]; simp [h4, h6])).symm
section
variable (kd : Int) (g : Bool) (x0 x1 x2 x3 b : Int) (s : ByteArray) (la : Option Addr) (n lc : Nat) (ka : Option Addr) (m kc : Nat) (w : World)
theorem jrin_no (c : Int) (hc : (c == 0) = false)
    (k1 : ∀ W, Below w.heap.size w W → Calls Tryz.prog 17 #[V10 kd g x0 x1 x2 x3 b s la n lc ka m kc] W fun e w' => e = .returned (.int .i64 c) ∧ Below W.heap.size W w') :
    Calls Tryz.prog 18 #[V10 kd g x0 x1 x2 x3 b s la n lc ka m kc, .int .i64 1] w fun e w' => e = .returned (.bool false) ∧ Below w.heap.size w w' := by
  have K1 := Lib.hid k1; clear k1
  go_enter Tryz.func18, Tryz.ntmps18
  go_wp2_with (go_at_call 17; ((with_reducible refine (K1.out _ (bal (Below.refl _ _) _)).mono ?_); rintro e w1 ⟨rfl, hb1⟩))
  go_ret
  exact ⟨rfl, btr (bal (Below.refl _ _) _) hb1⟩
theorem jrin_yes (q : Bool)
    (k1 : ∀ W, Below w.heap.size w W → Calls Tryz.prog 17 #[V10 kd g x0 x1 x2 x3 b s la n lc ka m kc] W fun e w' => e = .returned (.int .i64 0) ∧ Below W.heap.size W w')
    (k2 : ∀ W, Below w.heap.size w W → Calls Tryz.prog 37 #[V10 kd g x0 x1 x2 x3 b s la n lc ka m kc, .int .i64 1, .bool false, .bool false] W fun e w' => e = .returned (.bool q) ∧ Below W.heap.size W w') :
    Calls Tryz.prog 18 #[V10 kd g x0 x1 x2 x3 b s la n lc ka m kc, .int .i64 1] w fun e w' => e = .returned (.bool q) ∧ Below w.heap.size w w' := by
  have K1 := Lib.hid k1; have K2 := Lib.hid k2; clear k1 k2
  go_enter Tryz.func18, Tryz.ntmps18
  go_wp2_with fail
  ((with_reducible refine (K1.out _ (bal (Below.refl _ _) _)).mono ?_); rintro e w1 ⟨rfl, hb1⟩)
  have R := Row10.keep hb1 (Row10.new w (.int .i64 kd) (.bool g) (.int .u64 x0) (.int .u64 x1) (.int .u64 x2) (.int .u64 x3) (.int .u64 b) (.string s) (.slice la n lc) (.slice ka m kc))
  have B1 := Lib.hid (btr (bal (Below.refl _ w) _) hb1)
  obtain ⟨p0, p1, p2, p3, p4, p5, p6, p7, p8, p9⟩ := R.parts
  clear hb1 R
  go_wp2_with (go_at_call 37; ((with_reducible refine (K2.out _ B1.out).mono ?_); rintro e w2 ⟨rfl, hb2⟩))
  go_ret
  exact ⟨rfl, btr B1.out hb2⟩
end
/-- entrepotref6.In at JSON, of a few: what value.In answers. -/
theorem rin_json (T : VT) (w : World) (hQ : Qv T w) (hn : T.nodes ≤ 400) (hd : T.depth ≤ 40) (hE : T.Every TinyO) :
    Calls Tryz.prog 18 #[T.val, .int .i64 1] w fun e w' => e = .returned (.bool (inB T 1)) ∧ Below w.heap.size w w' := by
  have k1 := fun W (hb : Below w.heap.size w W) => r6may_few T W (hQ.keep hb) hn hd hE
  by_cases h0 : mayN T = 0
  · rw [h0] at k1
    have k2 := fun W (hb : Below w.heap.size w W) => inside_jany T false false W (hQ.keep hb)
    have e : (!hasT notJsonT T) = inB T 1 := by unfold inB; rw [if_pos h0, if_pos rfl]
    rw [e] at k2
    exact jrin_yes _ _ _ _ _ _ _ _ _ _ _ _ _ _ w _ k1 k2
  · have : inB T 1 = false := by unfold inB; rw [if_neg h0]
    rw [this]
    exact jrin_no _ _ _ _ _ _ _ _ _ _ _ _ _ _ w _ (beq_eq_false_iff_ne.2 h0) k1
end Go.Proofs.YtocffoemimghhaaGreatDoor
