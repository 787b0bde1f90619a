/-
  entrepotref6.sign, order, Cmp: the contracts.
-/
import Derived.Test.YtgklokjilfeklaaGreatDoorValOrd
import Derived.Test.YtgklokjilfeklaaGreatDoorGN
import Derived.Lib.QuietBelow
import Derived.BigQuiet
namespace Go.Proofs.YtgklokjilfeklaaGreatDoor
open Go.RowKit Go.Shelf
open Go.Sort (grow)

theorem rsign (x y : Int) (w : World) : Calls Tryz.prog 60 #[.int .u64 x, .int .u64 y] w fun e w' => e = .returned (.int .i64 (Lib.compareInt x y)) ∧ Below w.heap.size w w' := by
  by_cases h1 : x < y
  · have e : Lib.compareInt x y = -1 := by unfold Lib.compareInt; rw [if_pos h1]
    rw [e]
    go_enter Tryz.func60, Tryz.ntmps60
    go_wp2
    go_ret
    exact ⟨rfl, Below.refl _ _⟩
  · by_cases h2 : y < x
    · have e : Lib.compareInt x y = 1 := by unfold Lib.compareInt; rw [if_neg h1, if_pos h2]
      rw [e]
      go_enter Tryz.func60, Tryz.ntmps60
      go_wp2
      go_ret
      exact ⟨rfl, Below.refl _ _⟩
    · have e : Lib.compareInt x y = 0 := by unfold Lib.compareInt; rw [if_neg h1, if_neg h2]
      rw [e]
      go_enter Tryz.func60, Tryz.ntmps60
      go_wp2
      go_ret
      exact ⟨rfl, Below.refl _ _⟩
theorem rorder (x y : ByteArray) (w : World) : Calls Tryz.prog 62 #[.string x, .string y] w fun e w' => e = .returned (.int .i64 (cmpS x y)) ∧ Below w.heap.size w w' := by
  unfold cmpS
  cases h1 : Op.bytesLess x.toList y.toList with
  | true =>
    rw [if_pos rfl]
    go_enter Tryz.func62, Tryz.ntmps62
    go_wp2
    go_ret
    exact ⟨rfl, Below.refl _ _⟩
  | false =>
    rw [if_neg (by simp)]
    cases h2 : (x.toList == y.toList) with
    | true =>
      rw [if_pos rfl]
      go_enter Tryz.func62, Tryz.ntmps62
      go_wp2
      go_ret
      exact ⟨rfl, Below.refl _ _⟩
    | false =>
      rw [if_neg (by simp)]
      go_enter Tryz.func62, Tryz.ntmps62
      go_wp2
      go_ret
      exact ⟨rfl, Below.refl _ _⟩
set_option maxRecDepth 100000 in
set_option maxHeartbeats 4000000 in
theorem rcmp_kinds (kd kd' : Int) (hk : (kd != kd') = true) (h0 : 0 ≤ kd ∧ kd ≤ 100) (h1 : 0 ≤ kd' ∧ kd' ≤ 100) (g : Bool) (x0 x1 x2 x3 b : Int) (s : ByteArray) (la : Option Addr) (lc : Nat) (ka : Option Addr) (kc : Nat) (h : Bool) (y0 y1 y2 y3 b' : Int) (s' : ByteArray) (la' : Option Addr) (lc' : Nat) (ka' : Option Addr) (kc' : Nat) (ks ks' : List ByteArray) (kids us : List VT) (w : World) :
    Calls Tryz.prog 23 #[V10 kd g x0 x1 x2 x3 b s la kids.length lc ka ks.length kc, V10 kd' h y0 y1 y2 y3 b' s' la' us.length lc' ka' ks'.length kc'] w fun e w' => e = .returned (.int .i64 (Lib.compareInt kd kd')) ∧ Below w.heap.size w w' := by
  have e1 : IntKind.u64.wrap kd = kd := IntWalk.u64_in _ (by omega)
  have e2 : IntKind.u64.wrap kd' = kd' := IntWalk.u64_in _ (by omega)
  clear h0 h1
  go_enter Tryz.func23, Tryz.ntmps23
  go_wp2_with (go_at_call 60; ((with_reducible refine (rsign _ _ _).mono ?_); rintro e w1 ⟨rfl, hb1⟩))
  go_ret
  exact ⟨rfl, btr (bal (bal (Below.refl _ _) _) _) hb1⟩
set_option maxRecDepth 100000 in
set_option maxHeartbeats 4000000 in
theorem rcmp_k2  (g : Bool) (x0 x1 x2 x3 b : Int) (s : ByteArray) (la : Option Addr) (lc : Nat) (ka : Option Addr) (kc : Nat) (h : Bool) (y0 y1 y2 y3 b' : Int) (s' : ByteArray) (la' : Option Addr) (lc' : Nat) (ka' : Option Addr) (kc' : Nat) (ks ks' : List ByteArray) (kids us : List VT) (w : World) :
    Calls Tryz.prog 23 #[V10 2 g x0 x1 x2 x3 b s la kids.length lc ka ks.length kc, V10 2 h y0 y1 y2 y3 b' s' la' us.length lc' ka' ks'.length kc'] w fun e w' => e = .returned (.int .i64 (Lib.compareInt b b')) ∧ Below w.heap.size w w' := by
  go_enter Tryz.func23, Tryz.ntmps23
  go_wp2_with (go_at_call 60; ((with_reducible refine (rsign _ _ _).mono ?_); rintro e w1 ⟨rfl, hb1⟩))
  go_ret
  exact ⟨rfl, btr (bal (bal (Below.refl _ _) _) _) hb1⟩
set_option maxRecDepth 100000 in
set_option maxHeartbeats 4000000 in
theorem rcmp_k4  (g : Bool) (x0 x1 x2 x3 b : Int) (s : ByteArray) (la : Option Addr) (lc : Nat) (ka : Option Addr) (kc : Nat) (h : Bool) (y0 y1 y2 y3 b' : Int) (s' : ByteArray) (la' : Option Addr) (lc' : Nat) (ka' : Option Addr) (kc' : Nat) (ks ks' : List ByteArray) (kids us : List VT) (w : World) :
    Calls Tryz.prog 23 #[V10 4 g x0 x1 x2 x3 b s la kids.length lc ka ks.length kc, V10 4 h y0 y1 y2 y3 b' s' la' us.length lc' ka' ks'.length kc'] w fun e w' => e = .returned (.int .i64 (Lib.compareInt b b')) ∧ Below w.heap.size w w' := by
  go_enter Tryz.func23, Tryz.ntmps23
  go_wp2_with (go_at_call 60; ((with_reducible refine (rsign _ _ _).mono ?_); rintro e w1 ⟨rfl, hb1⟩))
  go_ret
  exact ⟨rfl, btr (bal (bal (Below.refl _ _) _) _) hb1⟩
set_option maxRecDepth 100000 in
set_option maxHeartbeats 4000000 in
theorem rcmp_k5  (g : Bool) (x0 x1 x2 x3 b : Int) (s : ByteArray) (la : Option Addr) (lc : Nat) (ka : Option Addr) (kc : Nat) (h : Bool) (y0 y1 y2 y3 b' : Int) (s' : ByteArray) (la' : Option Addr) (lc' : Nat) (ka' : Option Addr) (kc' : Nat) (ks ks' : List ByteArray) (kids us : List VT) (w : World) :
    Calls Tryz.prog 23 #[V10 5 g x0 x1 x2 x3 b s la kids.length lc ka ks.length kc, V10 5 h y0 y1 y2 y3 b' s' la' us.length lc' ka' ks'.length kc'] w fun e w' => e = .returned (.int .i64 (cmpS s s')) ∧ Below w.heap.size w w' := by
  go_enter Tryz.func23, Tryz.ntmps23
  go_wp2_with (go_at_call 62; ((with_reducible refine (rorder _ _ _).mono ?_); rintro e w1 ⟨rfl, hb1⟩))
  go_ret
  exact ⟨rfl, btr (bal (bal (Below.refl _ _) _) _) hb1⟩
set_option maxRecDepth 100000 in
set_option maxHeartbeats 4000000 in
theorem rcmp_k6  (g : Bool) (x0 x1 x2 x3 b : Int) (s : ByteArray) (la : Option Addr) (lc : Nat) (ka : Option Addr) (kc : Nat) (h : Bool) (y0 y1 y2 y3 b' : Int) (s' : ByteArray) (la' : Option Addr) (lc' : Nat) (ka' : Option Addr) (kc' : Nat) (ks ks' : List ByteArray) (kids us : List VT) (w : World) :
    Calls Tryz.prog 23 #[V10 6 g x0 x1 x2 x3 b s la kids.length lc ka ks.length kc, V10 6 h y0 y1 y2 y3 b' s' la' us.length lc' ka' ks'.length kc'] w fun e w' => e = .returned (.int .i64 (cmpS s s')) ∧ Below w.heap.size w w' := by
  go_enter Tryz.func23, Tryz.ntmps23
  go_wp2_with (go_at_call 62; ((with_reducible refine (rorder _ _ _).mono ?_); rintro e w1 ⟨rfl, hb1⟩))
  go_ret
  exact ⟨rfl, btr (bal (bal (Below.refl _ _) _) _) hb1⟩
set_option maxRecDepth 100000 in
set_option maxHeartbeats 4000000 in
theorem rcmp_k3 (R : Int) (g : Bool) (x0 x1 x2 x3 b : Int) (s : ByteArray) (la : Option Addr) (lc : Nat) (ka : Option Addr) (kc : Nat) (h : Bool) (y0 y1 y2 y3 b' : Int) (s' : ByteArray) (la' : Option Addr) (lc' : Nat) (ka' : Option Addr) (kc' : Nat) (ks ks' : List ByteArray) (kids us : List VT) (w : World)
    (k1 : ∀ W, Calls Tryz.prog 61 #[.agg #[.bool g, .int .u64 x0, .int .u64 x1, .int .u64 x2, .int .u64 x3], .agg #[.bool h, .int .u64 y0, .int .u64 y1, .int .u64 y2, .int .u64 y3]] W fun e w' => e = .returned (.int .i64 R) ∧ Below W.heap.size W w') :
    Calls Tryz.prog 23 #[V10 3 g x0 x1 x2 x3 b s la kids.length lc ka ks.length kc, V10 3 h y0 y1 y2 y3 b' s' la' us.length lc' ka' ks'.length kc'] w fun e w' => e = .returned (.int .i64 R) ∧ Below w.heap.size w w' := by
  have K1 := Lib.hid k1; clear k1
  go_enter Tryz.func23, Tryz.ntmps23
  go_wp2_with (go_at_call 61; ((with_reducible refine (K1.out _).mono ?_); rintro e w1 ⟨rfl, hb1⟩))
  go_ret
  exact ⟨rfl, btr (bal (bal (Below.refl _ _) _) _) hb1⟩
set_option maxRecDepth 100000 in
set_option maxHeartbeats 4000000 in
theorem rcmp_len  (g : Bool) (x0 x1 x2 x3 b : Int) (s : ByteArray) (la : Option Addr) (lc : Nat) (ka : Option Addr) (kc : Nat) (h : Bool) (y0 y1 y2 y3 b' : Int) (s' : ByteArray) (la' : Option Addr) (lc' : Nat) (ka' : Option Addr) (kc' : Nat) (ks ks' : List ByteArray) (kids us : List VT) (w : World)(hl : ((ks.length : Int) != (ks'.length : Int)) = true) (ha : ks.length ≤ 9223372036854775807) (hb : ks'.length ≤ 9223372036854775807) :
    Calls Tryz.prog 23 #[V10 8 g x0 x1 x2 x3 b s la kids.length lc ka ks.length kc, V10 8 h y0 y1 y2 y3 b' s' la' us.length lc' ka' ks'.length kc'] w fun e w' => e = .returned (.int .i64 (Lib.compareInt (ks.length : Int) (ks'.length : Int))) ∧ Below w.heap.size w w' := by
  have e1 : IntKind.u64.wrap (ks.length : Int) = (ks.length : Int) := IntWalk.u64_in _ (by omega)
  have e2 : IntKind.u64.wrap (ks'.length : Int) = (ks'.length : Int) := IntWalk.u64_in _ (by omega)
  clear ha hb
  go_enter Tryz.func23, Tryz.ntmps23
  go_wp2_with (go_at_call 60; ((with_reducible refine (rsign _ _ _).mono ?_); rintro e w1 ⟨rfl, hb1⟩))
  go_ret
  exact ⟨rfl, btr (bal (bal (Below.refl _ _) _) _) hb1⟩
set_option maxRecDepth 100000 in
set_option maxHeartbeats 4000000 in
theorem rcmp_k1 (kb koff kb' koff' bb off bb' off' : Nat) (fs : List (VT → Int)) (g : Bool) (x0 x1 x2 x3 b : Int) (s : ByteArray) (la : Option Addr) (lc : Nat) (ka : Option Addr) (kc : Nat) (h : Bool) (y0 y1 y2 y3 b' : Int) (s' : ByteArray) (la' : Option Addr) (lc' : Nat) (ka' : Option Addr) (kc' : Nat) (ks ks' : List ByteArray) (kids us : List VT) (w : World)
    (hKA : KeysL w ka ks kb koff) (hKB : KeysL w ka' ks' kb' koff') (hLA : Kids w la kids bb off) (hLB : Kids w la' us bb' off') (hfs : fs.length = kids.length)
    (hp : ∀ (k : Nat) (t u : VT) (f : VT → Int), kids[k]? = some t → us[k]? = some u → fs[k]? = some f → ∀ W, Below w.heap.size w W → Calls Tryz.prog 23 #[t.val, u.val] W fun e w' => e = .returned (.int .i64 (f u)) ∧ Below W.heap.size W w') :
    Calls Tryz.prog 23 #[V10 1 g x0 x1 x2 x3 b s la kids.length lc ka ks.length kc, V10 1 h y0 y1 y2 y3 b' s' la' us.length lc' ka' ks'.length kc'] w fun e w' => e = .returned (.int .i64 (cmpF fs us)) ∧ Below w.heap.size w w' := by
  have hna := hKA.len; have hnb := hKB.len; have hla := hLA.len; have hlb := hLB.len
  have HKA := Lib.hid hKA; have HKB := Lib.hid hKB; have HLA := Lib.hid hLA; have HLB := Lib.hid hLB; have HFS := Lib.hid hfs; have HP := Lib.hid hp
  clear hKA hKB hLA hLB hfs hp
  go_enter Tryz.func23, Tryz.ntmps23
  go_wp2
  go_loopw [7, 8] (fun i _ wr => ∃ k : Nat, k ≤ kids.length ∧ k ≤ us.length ∧ i = .int .i64 k ∧ Hid (Below w.heap.size w wr ∧ Row10 wr w.heap.size (.int .i64 1) (.bool g) (.int .u64 x0) (.int .u64 x1) (.int .u64 x2) (.int .u64 x3) (.int .u64 b) (.string s) (.slice la kids.length lc) (.slice ka ks.length kc) ∧ Row10 wr (w.heap.size + 1) (.int .i64 1) (.bool h) (.int .u64 y0) (.int .u64 y1) (.int .u64 y2) (.int .u64 y3) (.int .u64 b') (.string s') (.slice la' us.length lc') (.slice ka' ks'.length kc')) ∧ Hid (∀ c ∈ ((fs.zip us).take k).map (fun p => p.1 p.2), c = 0)) (fun i _ _ => kids.length - (intOf i).toNat)
  case atStart => exact ⟨0, Nat.zero_le _, Nat.zero_le _, rfl, (show Hid _ from ⟨(bal (bal (Below.refl _ _) _) _), Row10.alloc (Row10.new _ _ _ _ _ _ _ _ _ _ _) _, row10_new2 _ _ _ _ _ _ _ _ _ _ _ _⟩), (show Hid _ from fun c hc => by simp at hc)⟩
  case round =>
    obtain ⟨k2, hk2, hkb2, rfl, BW, AN⟩ := hrel
    obtain ⟨p0, p1, p2, p3, p4, p5, p6, p7, p8, p9⟩ := BW.out.2.1.parts
    obtain ⟨t0, t1, t2, t3, t4, t5, t6, t7, t8, t9⟩ := BW.out.2.2.parts
    clear p0 p1 p2 p3 p4 p5 p6 p7 p9 t0 t1 t2 t3 t4 t5 t6 t7 t9
    by_cases hlt : k2 < kids.length
    · have hi1 : (k2 : Int) < (kids.length : Int) := by omega
      by_cases hlt2 : k2 < us.length
      · have hi2 : (k2 : Int) < (us.length : Int) := by omega
        obtain ⟨x, hx, _⟩ := kid_at hlt
        obtain ⟨y, hy, _⟩ := kid_at hlt2
        obtain ⟨f, hf⟩ : ∃ f, fs[k2]? = some f := ⟨_, List.getElem?_eq_getElem (by have := HFS.out; omega)⟩
        have hra := (HLA.out.cells k2 x hx).keep BW.out.1
        have hrb := (HLB.out.cells k2 y hy).keep BW.out.1
        obtain rfl : la = some ⟨bb, off, none⟩ := HLA.out.la (by omega)
        obtain rfl : la' = some ⟨bb', off', none⟩ := HLB.out.la (by omega)
        have hcall := HP.out k2 x y f hx hy hf
        have hz := fun h0 => zero_next (f := fun p : (VT → Int) × VT => p.1 p.2) (zip_at hf hy) AN.out h0
        have hh := fun h0 => cmpF_hit hf hy AN.out h0
        dsimp only at hz
        generalize f y = C at *
        have HZ := Lib.hid hz; have HH := Lib.hid hh
        clear hx hy hf hz hh
        obtain ⟨o2, l2⟩ := x
        obtain ⟨kd2, g2, x2', b2, s2, la2, lc2, ka2, kc2, ks2⟩ := o2
        obtain ⟨o3, l3⟩ := y
        obtain ⟨kd3, g3, x3', b3, s3, la3, lc3, ka3, kc3, ks3⟩ := o3
        simp only [VT.val, VT.cells, VT.o_mk, VT.kids_mk] at hcall
        obtain ⟨c0, c1, c2, c3, c4, c5, c6, c7, c8, c9⟩ := hra.ten
        obtain ⟨d0, d1, d2, d3, d4, d5, d6, d7, d8, d9⟩ := hrb.ten
        have HCALL := Lib.hid hcall
        clear hra hrb hcall
        by_cases h0 : C = 0
        · subst h0
          have HN := Lib.hid (HZ.out rfl)
          clear HZ HH
          go_upto_region 24 with (fail)
          have zp8 := cell_regrown p8
          have zt8 := cell_regrown t8
          have zc0 := cell_regrown c0
          have zc1 := cell_regrown c1
          have zc2 := cell_regrown c2
          have zc3 := cell_regrown c3
          have zc4 := cell_regrown c4
          have zc5 := cell_regrown c5
          have zc6 := cell_regrown c6
          have zc7 := cell_regrown c7
          have zc8 := cell_regrown c8
          have zc9 := cell_regrown c9
          have zd0 := cell_regrown d0
          have zd1 := cell_regrown d1
          have zd2 := cell_regrown d2
          have zd3 := cell_regrown d3
          have zd4 := cell_regrown d4
          have zd5 := cell_regrown d5
          have zd6 := cell_regrown d6
          have zd7 := cell_regrown d7
          have zd8 := cell_regrown d8
          have zd9 := cell_regrown d9
          clear p8 t8 c0 c1 c2 c3 c4 c5 c6 c7 c8 c9 d0 d1 d2 d3 d4 d5 d6 d7 d8 d9
          have cq0 := fun (d : Nat) (os : Array Obj) => Calls.regrown_of (w := wr) (d := d) (os := os) (HCALL.out _ (btr BW.out.1 (below_regrown wr d os)))
          refine wp_region_quiet_below (by kernel_rfl) (by kernel_rfl) ?_
          repeat (first | go_big_quiet_step ((first | with_reducible exact cq0 _ _)) | quiet_step (first | with_reducible exact cq0 _ _))
          refine wpQuiet_nil ?_
          intro _ hw'
          obtain ⟨⟨dq, osq⟩, hw''⟩ := hw'
          subst hw''
          clear zp8 zt8 zc0 zc1 zc2 zc3 zc4 zc5 zc6 zc7 zc8 zc9 zd0 zd1 zd2 zd3 zd4 zd5 zd6 zd7 zd8 zd9 cq0
          have BV := Lib.hid (And.intro (btr BW.out.1 (below_regrown wr dq osq)) (And.intro (Row10.keep (below_regrown wr dq osq) BW.out.2.1) (Row10.keep (below_regrown wr dq osq) BW.out.2.2)))
          generalize grow (redrawn wr dq) osq = w9 at *
          go_wp2
          go_roundw
          case rel => exact ⟨k2 + 1, by omega, by omega, by go_num, BV, HN⟩
          case measure => simp [intOf]; omega
        · have HN := Lib.hid (HH.out h0)
          have hb0 : (C != 0) = true := bne_iff_ne.2 h0
          clear h0 HZ HH
          go_upto_region 24 with (fail)
          have zp8 := cell_regrown p8
          have zt8 := cell_regrown t8
          have zc0 := cell_regrown c0
          have zc1 := cell_regrown c1
          have zc2 := cell_regrown c2
          have zc3 := cell_regrown c3
          have zc4 := cell_regrown c4
          have zc5 := cell_regrown c5
          have zc6 := cell_regrown c6
          have zc7 := cell_regrown c7
          have zc8 := cell_regrown c8
          have zc9 := cell_regrown c9
          have zd0 := cell_regrown d0
          have zd1 := cell_regrown d1
          have zd2 := cell_regrown d2
          have zd3 := cell_regrown d3
          have zd4 := cell_regrown d4
          have zd5 := cell_regrown d5
          have zd6 := cell_regrown d6
          have zd7 := cell_regrown d7
          have zd8 := cell_regrown d8
          have zd9 := cell_regrown d9
          clear p8 t8 c0 c1 c2 c3 c4 c5 c6 c7 c8 c9 d0 d1 d2 d3 d4 d5 d6 d7 d8 d9
          have cq0 := fun (d : Nat) (os : Array Obj) => Calls.regrown_of (w := wr) (d := d) (os := os) (HCALL.out _ (btr BW.out.1 (below_regrown wr d os)))
          refine wp_region_quiet_below (by kernel_rfl) (by kernel_rfl) ?_
          repeat (first | go_big_quiet_step ((first | with_reducible exact cq0 _ _)) | quiet_step (first | with_reducible exact cq0 _ _))
          refine wpQuiet_nil ?_
          intro _ hw'
          obtain ⟨⟨dq, osq⟩, hw''⟩ := hw'
          subst hw''
          clear zp8 zt8 zc0 zc1 zc2 zc3 zc4 zc5 zc6 zc7 zc8 zc9 zd0 zd1 zd2 zd3 zd4 zd5 zd6 zd7 zd8 zd9 cq0
          have BV := Lib.hid (btr BW.out.1 (below_regrown wr dq osq))
          generalize grow (redrawn wr dq) osq = w9 at *
          go_wp2
          go_ret
          exact ⟨ret_int (HN.out.symm), BV.out⟩
      · have hi2 : ¬ (k2 : Int) < (us.length : Int) := by omega
        have HE := Lib.hid (cmpF_end (fs := fs) (us := us) (.inr (by omega)) AN.out)
        rw [HFS.out] at HE
        have ew1 : IntKind.u64.wrap (kids.length : Int) = (kids.length : Int) := IntWalk.u64_in _ (by omega)
        have ew2 : IntKind.u64.wrap (us.length : Int) = (us.length : Int) := IntWalk.u64_in _ (by omega)
        go_wp2_with (go_at_call 60; ((with_reducible refine (rsign _ _ _).mono ?_); rintro e w1 ⟨rfl, hb1⟩))
        go_ret
        exact ⟨ret_int (HE.out.symm), btr BW.out.1 hb1⟩
    · have hi1 : ¬ (k2 : Int) < (kids.length : Int) := by omega
      have HE := Lib.hid (cmpF_end (fs := fs) (us := us) (.inl (by have := HFS.out; omega)) AN.out)
      rw [HFS.out] at HE
      have ew1 : IntKind.u64.wrap (kids.length : Int) = (kids.length : Int) := IntWalk.u64_in _ (by omega)
      have ew2 : IntKind.u64.wrap (us.length : Int) = (us.length : Int) := IntWalk.u64_in _ (by omega)
      go_wp2_with (go_at_call 60; ((with_reducible refine (rsign _ _ _).mono ?_); rintro e w1 ⟨rfl, hb1⟩))
      go_ret
      exact ⟨ret_int (HE.out.symm), btr BW.out.1 hb1⟩
set_option maxRecDepth 100000 in
set_option maxHeartbeats 4000000 in
theorem rcmp_k7 (kb koff kb' koff' bb off bb' off' : Nat) (fs : List (VT → Int)) (g : Bool) (x0 x1 x2 x3 b : Int) (s : ByteArray) (la : Option Addr) (lc : Nat) (ka : Option Addr) (kc : Nat) (h : Bool) (y0 y1 y2 y3 b' : Int) (s' : ByteArray) (la' : Option Addr) (lc' : Nat) (ka' : Option Addr) (kc' : Nat) (ks ks' : List ByteArray) (kids us : List VT) (w : World)
    (hKA : KeysL w ka ks kb koff) (hKB : KeysL w ka' ks' kb' koff') (hLA : Kids w la kids bb off) (hLB : Kids w la' us bb' off') (hfs : fs.length = kids.length)
    (hp : ∀ (k : Nat) (t u : VT) (f : VT → Int), kids[k]? = some t → us[k]? = some u → fs[k]? = some f → ∀ W, Below w.heap.size w W → Calls Tryz.prog 23 #[t.val, u.val] W fun e w' => e = .returned (.int .i64 (f u)) ∧ Below W.heap.size W w') :
    Calls Tryz.prog 23 #[V10 7 g x0 x1 x2 x3 b s la kids.length lc ka ks.length kc, V10 7 h y0 y1 y2 y3 b' s' la' us.length lc' ka' ks'.length kc'] w fun e w' => e = .returned (.int .i64 (cmpF fs us)) ∧ Below w.heap.size w w' := by
  have hna := hKA.len; have hnb := hKB.len; have hla := hLA.len; have hlb := hLB.len
  have HKA := Lib.hid hKA; have HKB := Lib.hid hKB; have HLA := Lib.hid hLA; have HLB := Lib.hid hLB; have HFS := Lib.hid hfs; have HP := Lib.hid hp
  clear hKA hKB hLA hLB hfs hp
  go_enter Tryz.func23, Tryz.ntmps23
  go_wp2
  go_loopw [7, 8] (fun i _ wr => ∃ k : Nat, k ≤ kids.length ∧ k ≤ us.length ∧ i = .int .i64 k ∧ Hid (Below w.heap.size w wr ∧ Row10 wr w.heap.size (.int .i64 7) (.bool g) (.int .u64 x0) (.int .u64 x1) (.int .u64 x2) (.int .u64 x3) (.int .u64 b) (.string s) (.slice la kids.length lc) (.slice ka ks.length kc) ∧ Row10 wr (w.heap.size + 1) (.int .i64 7) (.bool h) (.int .u64 y0) (.int .u64 y1) (.int .u64 y2) (.int .u64 y3) (.int .u64 b') (.string s') (.slice la' us.length lc') (.slice ka' ks'.length kc')) ∧ Hid (∀ c ∈ ((fs.zip us).take k).map (fun p => p.1 p.2), c = 0)) (fun i _ _ => kids.length - (intOf i).toNat)
  case atStart => exact ⟨0, Nat.zero_le _, Nat.zero_le _, rfl, (show Hid _ from ⟨(bal (bal (Below.refl _ _) _) _), Row10.alloc (Row10.new _ _ _ _ _ _ _ _ _ _ _) _, row10_new2 _ _ _ _ _ _ _ _ _ _ _ _⟩), (show Hid _ from fun c hc => by simp at hc)⟩
  case round =>
    obtain ⟨k2, hk2, hkb2, rfl, BW, AN⟩ := hrel
    obtain ⟨p0, p1, p2, p3, p4, p5, p6, p7, p8, p9⟩ := BW.out.2.1.parts
    obtain ⟨t0, t1, t2, t3, t4, t5, t6, t7, t8, t9⟩ := BW.out.2.2.parts
    clear p0 p1 p2 p3 p4 p5 p6 p7 p9 t0 t1 t2 t3 t4 t5 t6 t7 t9
    by_cases hlt : k2 < kids.length
    · have hi1 : (k2 : Int) < (kids.length : Int) := by omega
      by_cases hlt2 : k2 < us.length
      · have hi2 : (k2 : Int) < (us.length : Int) := by omega
        obtain ⟨x, hx, _⟩ := kid_at hlt
        obtain ⟨y, hy, _⟩ := kid_at hlt2
        obtain ⟨f, hf⟩ : ∃ f, fs[k2]? = some f := ⟨_, List.getElem?_eq_getElem (by have := HFS.out; omega)⟩
        have hra := (HLA.out.cells k2 x hx).keep BW.out.1
        have hrb := (HLB.out.cells k2 y hy).keep BW.out.1
        obtain rfl : la = some ⟨bb, off, none⟩ := HLA.out.la (by omega)
        obtain rfl : la' = some ⟨bb', off', none⟩ := HLB.out.la (by omega)
        have hcall := HP.out k2 x y f hx hy hf
        have hz := fun h0 => zero_next (f := fun p : (VT → Int) × VT => p.1 p.2) (zip_at hf hy) AN.out h0
        have hh := fun h0 => cmpF_hit hf hy AN.out h0
        dsimp only at hz
        generalize f y = C at *
        have HZ := Lib.hid hz; have HH := Lib.hid hh
        clear hx hy hf hz hh
        obtain ⟨o2, l2⟩ := x
        obtain ⟨kd2, g2, x2', b2, s2, la2, lc2, ka2, kc2, ks2⟩ := o2
        obtain ⟨o3, l3⟩ := y
        obtain ⟨kd3, g3, x3', b3, s3, la3, lc3, ka3, kc3, ks3⟩ := o3
        simp only [VT.val, VT.cells, VT.o_mk, VT.kids_mk] at hcall
        obtain ⟨c0, c1, c2, c3, c4, c5, c6, c7, c8, c9⟩ := hra.ten
        obtain ⟨d0, d1, d2, d3, d4, d5, d6, d7, d8, d9⟩ := hrb.ten
        have HCALL := Lib.hid hcall
        clear hra hrb hcall
        by_cases h0 : C = 0
        · subst h0
          have HN := Lib.hid (HZ.out rfl)
          clear HZ HH
          go_upto_region 24 with (fail)
          have zp8 := cell_regrown p8
          have zt8 := cell_regrown t8
          have zc0 := cell_regrown c0
          have zc1 := cell_regrown c1
          have zc2 := cell_regrown c2
          have zc3 := cell_regrown c3
          have zc4 := cell_regrown c4
          have zc5 := cell_regrown c5
          have zc6 := cell_regrown c6
          have zc7 := cell_regrown c7
          have zc8 := cell_regrown c8
          have zc9 := cell_regrown c9
          have zd0 := cell_regrown d0
          have zd1 := cell_regrown d1
          have zd2 := cell_regrown d2
          have zd3 := cell_regrown d3
          have zd4 := cell_regrown d4
          have zd5 := cell_regrown d5
          have zd6 := cell_regrown d6
          have zd7 := cell_regrown d7
          have zd8 := cell_regrown d8
          have zd9 := cell_regrown d9
          clear p8 t8 c0 c1 c2 c3 c4 c5 c6 c7 c8 c9 d0 d1 d2 d3 d4 d5 d6 d7 d8 d9
          have cq0 := fun (d : Nat) (os : Array Obj) => Calls.regrown_of (w := wr) (d := d) (os := os) (HCALL.out _ (btr BW.out.1 (below_regrown wr d os)))
          refine wp_region_quiet_below (by kernel_rfl) (by kernel_rfl) ?_
          repeat (first | go_big_quiet_step ((first | with_reducible exact cq0 _ _)) | quiet_step (first | with_reducible exact cq0 _ _))
          refine wpQuiet_nil ?_
          intro _ hw'
          obtain ⟨⟨dq, osq⟩, hw''⟩ := hw'
          subst hw''
          clear zp8 zt8 zc0 zc1 zc2 zc3 zc4 zc5 zc6 zc7 zc8 zc9 zd0 zd1 zd2 zd3 zd4 zd5 zd6 zd7 zd8 zd9 cq0
          have BV := Lib.hid (And.intro (btr BW.out.1 (below_regrown wr dq osq)) (And.intro (Row10.keep (below_regrown wr dq osq) BW.out.2.1) (Row10.keep (below_regrown wr dq osq) BW.out.2.2)))
          generalize grow (redrawn wr dq) osq = w9 at *
          go_wp2
          go_roundw
          case rel => exact ⟨k2 + 1, by omega, by omega, by go_num, BV, HN⟩
          case measure => simp [intOf]; omega
        · have HN := Lib.hid (HH.out h0)
          have hb0 : (C != 0) = true := bne_iff_ne.2 h0
          clear h0 HZ HH
          go_upto_region 24 with (fail)
          have zp8 := cell_regrown p8
          have zt8 := cell_regrown t8
          have zc0 := cell_regrown c0
          have zc1 := cell_regrown c1
          have zc2 := cell_regrown c2
          have zc3 := cell_regrown c3
          have zc4 := cell_regrown c4
          have zc5 := cell_regrown c5
          have zc6 := cell_regrown c6
          have zc7 := cell_regrown c7
          have zc8 := cell_regrown c8
          have zc9 := cell_regrown c9
          have zd0 := cell_regrown d0
          have zd1 := cell_regrown d1
          have zd2 := cell_regrown d2
          have zd3 := cell_regrown d3
          have zd4 := cell_regrown d4
          have zd5 := cell_regrown d5
          have zd6 := cell_regrown d6
          have zd7 := cell_regrown d7
          have zd8 := cell_regrown d8
          have zd9 := cell_regrown d9
          clear p8 t8 c0 c1 c2 c3 c4 c5 c6 c7 c8 c9 d0 d1 d2 d3 d4 d5 d6 d7 d8 d9
          have cq0 := fun (d : Nat) (os : Array Obj) => Calls.regrown_of (w := wr) (d := d) (os := os) (HCALL.out _ (btr BW.out.1 (below_regrown wr d os)))
          refine wp_region_quiet_below (by kernel_rfl) (by kernel_rfl) ?_
          repeat (first | go_big_quiet_step ((first | with_reducible exact cq0 _ _)) | quiet_step (first | with_reducible exact cq0 _ _))
          refine wpQuiet_nil ?_
          intro _ hw'
          obtain ⟨⟨dq, osq⟩, hw''⟩ := hw'
          subst hw''
          clear zp8 zt8 zc0 zc1 zc2 zc3 zc4 zc5 zc6 zc7 zc8 zc9 zd0 zd1 zd2 zd3 zd4 zd5 zd6 zd7 zd8 zd9 cq0
          have BV := Lib.hid (btr BW.out.1 (below_regrown wr dq osq))
          generalize grow (redrawn wr dq) osq = w9 at *
          go_wp2
          go_ret
          exact ⟨ret_int (HN.out.symm), BV.out⟩
      · have hi2 : ¬ (k2 : Int) < (us.length : Int) := by omega
        have HE := Lib.hid (cmpF_end (fs := fs) (us := us) (.inr (by omega)) AN.out)
        rw [HFS.out] at HE
        have ew1 : IntKind.u64.wrap (kids.length : Int) = (kids.length : Int) := IntWalk.u64_in _ (by omega)
        have ew2 : IntKind.u64.wrap (us.length : Int) = (us.length : Int) := IntWalk.u64_in _ (by omega)
        go_wp2_with (go_at_call 60; ((with_reducible refine (rsign _ _ _).mono ?_); rintro e w1 ⟨rfl, hb1⟩))
        go_ret
        exact ⟨ret_int (HE.out.symm), btr BW.out.1 hb1⟩
    · have hi1 : ¬ (k2 : Int) < (kids.length : Int) := by omega
      have HE := Lib.hid (cmpF_end (fs := fs) (us := us) (.inl (by have := HFS.out; omega)) AN.out)
      rw [HFS.out] at HE
      have ew1 : IntKind.u64.wrap (kids.length : Int) = (kids.length : Int) := IntWalk.u64_in _ (by omega)
      have ew2 : IntKind.u64.wrap (us.length : Int) = (us.length : Int) := IntWalk.u64_in _ (by omega)
      go_wp2_with (go_at_call 60; ((with_reducible refine (rsign _ _ _).mono ?_); rintro e w1 ⟨rfl, hb1⟩))
      go_ret
      exact ⟨ret_int (HE.out.symm), btr BW.out.1 hb1⟩
set_option maxRecDepth 100000 in
set_option maxHeartbeats 4000000 in
theorem rcmp_map (kb koff kb' koff' bb off bb' off' : Nat) (fs : List (VT → Int)) (R : Int) (g : Bool) (x0 x1 x2 x3 b : Int) (s : ByteArray) (la : Option Addr) (lc : Nat) (ka : Option Addr) (kc : Nat) (h : Bool) (y0 y1 y2 y3 b' : Int) (s' : ByteArray) (la' : Option Addr) (lc' : Nat) (ka' : Option Addr) (kc' : Nat) (ks ks' : List ByteArray) (kids us : List VT) (w : World)(hR : R = if cmpKs ks ks' = 0 then cmpF fs us else cmpKs ks ks') (hl : ((ks.length : Int) != (ks'.length : Int)) = false)
    (hKA : KeysL w ka ks kb koff) (hKB : KeysL w ka' ks' kb' koff') (hLA : Kids w la kids bb off) (hLB : Kids w la' us bb' off') (hfs : fs.length = kids.length)
    (hp : ∀ (k : Nat) (t u : VT) (f : VT → Int), kids[k]? = some t → us[k]? = some u → fs[k]? = some f → ∀ W, Below w.heap.size w W → Calls Tryz.prog 23 #[t.val, u.val] W fun e w' => e = .returned (.int .i64 (f u)) ∧ Below W.heap.size W w') :
    Calls Tryz.prog 23 #[V10 8 g x0 x1 x2 x3 b s la kids.length lc ka ks.length kc, V10 8 h y0 y1 y2 y3 b' s' la' us.length lc' ka' ks'.length kc'] w fun e w' => e = .returned (.int .i64 R) ∧ Below w.heap.size w w' := by
  have HRR := Lib.hid hR; clear hR
  have hmk : ks.length = ks'.length := by rw [bne_eq_false_iff_eq] at hl; omega
  have HMK := Lib.hid hmk
  clear hmk
  have hna := hKA.len; have hnb := hKB.len; have hla := hLA.len; have hlb := hLB.len
  have HKA := Lib.hid hKA; have HKB := Lib.hid hKB; have HLA := Lib.hid hLA; have HLB := Lib.hid hLB; have HFS := Lib.hid hfs; have HP := Lib.hid hp
  clear hKA hKB hLA hLB hfs hp
  go_enter Tryz.func23, Tryz.ntmps23
  go_wp2
  clear hl
  go_loopw [5, 6] (fun i _ wr => ∃ k : Nat, k ≤ ks.length ∧ i = .int .i64 k ∧ Hid (Below w.heap.size w wr ∧ Row10 wr w.heap.size (.int .i64 8) (.bool g) (.int .u64 x0) (.int .u64 x1) (.int .u64 x2) (.int .u64 x3) (.int .u64 b) (.string s) (.slice la kids.length lc) (.slice ka ks.length kc) ∧ Row10 wr (w.heap.size + 1) (.int .i64 8) (.bool h) (.int .u64 y0) (.int .u64 y1) (.int .u64 y2) (.int .u64 y3) (.int .u64 b') (.string s') (.slice la' us.length lc') (.slice ka' ks'.length kc')) ∧ Hid (∀ c ∈ ((ks.zip ks').take k).map (fun p => cmpS p.1 p.2), c = 0)) (fun i _ _ => ks.length - (intOf i).toNat)
  case atStart => exact ⟨0, Nat.zero_le _, rfl, (show Hid _ from ⟨(bal (bal (Below.refl _ _) _) _), Row10.alloc (Row10.new _ _ _ _ _ _ _ _ _ _ _) _, row10_new2 _ _ _ _ _ _ _ _ _ _ _ _⟩), (show Hid _ from fun c hc => by simp at hc)⟩
  case round =>
    obtain ⟨k, hk, rfl, BW, AN⟩ := hrel
    obtain ⟨p0, p1, p2, p3, p4, p5, p6, p7, p8, p9⟩ := BW.out.2.1.parts
    obtain ⟨t0, t1, t2, t3, t4, t5, t6, t7, t8, t9⟩ := BW.out.2.2.parts
    clear p0 p1 p2 p3 p4 p5 p6 p7 t0 t1 t2 t3 t4 t5 t6 t7
    by_cases hlt : k < ks.length
    · obtain ⟨x, hx, _⟩ := key_at hlt
      have hkb : k < ks'.length := by have := HMK.out; omega
      obtain ⟨y, hy, _⟩ := key_at hkb
      have hra := cell_keep BW.out.1 (HKA.out.cells k x hx)
      have hrb := cell_keep BW.out.1 (HKB.out.cells k y hy)
      obtain rfl : ka = some ⟨kb, koff, none⟩ := HKA.out.ka (by omega)
      obtain rfl : ka' = some ⟨kb', koff', none⟩ := HKB.out.ka (by omega)
      have hi1 : (k : Int) < (ks.length : Int) := by omega
      have hi2 : (k : Int) < (ks'.length : Int) := by omega
      have HCALL := Lib.hid (fun W (_ : Below w.heap.size w W) => rorder x y W)
      have hz := fun h0 => zero_next (f := fun p : ByteArray × ByteArray => cmpS p.1 p.2) (zip_at hx hy) AN.out h0
      have hh : cmpS x y ≠ 0 → cmpKs ks ks' = cmpS x y := fun h0 => hit_at (f := fun p : ByteArray × ByteArray => cmpS p.1 p.2) (zip_at hx hy) AN.out h0
      dsimp only at hz
      generalize cmpS x y = C at *
      have HZ := Lib.hid hz; have HH := Lib.hid hh
      clear hx hy hz hh
      by_cases h0 : C = 0
      · subst h0
        have HN := Lib.hid (HZ.out rfl)
        clear HZ HH
        go_upto_region 18 with (fail)
        have zp8 := cell_regrown p8
        have zp9 := cell_regrown p9
        have zt8 := cell_regrown t8
        have zt9 := cell_regrown t9
        have zhra := cell_regrown hra
        have zhrb := cell_regrown hrb
        clear p8 p9 t8 t9 hra hrb
        have cq0 := fun (d : Nat) (os : Array Obj) => Calls.regrown_of (w := wr) (d := d) (os := os) (HCALL.out _ (btr BW.out.1 (below_regrown wr d os)))
        refine wp_region_quiet_below (by kernel_rfl) (by kernel_rfl) ?_
        repeat (first | go_big_quiet_step ((first | with_reducible exact cq0 _ _)) | quiet_step (first | with_reducible exact cq0 _ _))
        refine wpQuiet_nil ?_
        intro _ hw'
        obtain ⟨⟨dq, osq⟩, hw''⟩ := hw'
        subst hw''
        clear zp8 zp9 zt8 zt9 zhra zhrb cq0
        have BV := Lib.hid (And.intro (btr BW.out.1 (below_regrown wr dq osq)) (And.intro (Row10.keep (below_regrown wr dq osq) BW.out.2.1) (Row10.keep (below_regrown wr dq osq) BW.out.2.2)))
        generalize grow (redrawn wr dq) osq = w9 at *
        go_wp2
        go_roundw
        case rel => exact ⟨k + 1, by omega, by go_num, BV, HN⟩
        case measure => simp [intOf]; omega
      · have HN := Lib.hid (HH.out h0)
        have H0 := Lib.hid h0
        have hb0 : (C != 0) = true := bne_iff_ne.2 h0
        clear h0 HZ HH
        go_upto_region 18 with (fail)
        have zp8 := cell_regrown p8
        have zp9 := cell_regrown p9
        have zt8 := cell_regrown t8
        have zt9 := cell_regrown t9
        have zhra := cell_regrown hra
        have zhrb := cell_regrown hrb
        clear p8 p9 t8 t9 hra hrb
        have cq0 := fun (d : Nat) (os : Array Obj) => Calls.regrown_of (w := wr) (d := d) (os := os) (HCALL.out _ (btr BW.out.1 (below_regrown wr d os)))
        refine wp_region_quiet_below (by kernel_rfl) (by kernel_rfl) ?_
        repeat (first | go_big_quiet_step ((first | with_reducible exact cq0 _ _)) | quiet_step (first | with_reducible exact cq0 _ _))
        refine wpQuiet_nil ?_
        intro _ hw'
        obtain ⟨⟨dq, osq⟩, hw''⟩ := hw'
        subst hw''
        clear zp8 zp9 zt8 zt9 zhra zhrb cq0
        have BV := Lib.hid (btr BW.out.1 (below_regrown wr dq osq))
        generalize grow (redrawn wr dq) osq = w9 at *
        go_wp2
        go_ret
        exact ⟨ret_int (by rw [HRR.out, HN.out, if_neg H0.out]), BV.out⟩
    · have hge : ¬ (k : Int) < (ks.length : Int) := by omega
      have HR : Hid (cmpKs ks ks' = 0) := all_zero (l := ks.zip ks') (by rw [List.length_zip]; omega) AN.out
      go_wp2
      clear p8 p9 t8 t9 AN hlt hge
      obtain ⟨wo, hwo⟩ : ∃ wo : World, wo = wr := ⟨_, rfl⟩
      subst hwo
      go_loopw [7, 8] (fun i _ wr => ∃ k : Nat, k ≤ kids.length ∧ k ≤ us.length ∧ i = .int .i64 k ∧ Hid (Below w.heap.size w wr ∧ Row10 wr w.heap.size (.int .i64 8) (.bool g) (.int .u64 x0) (.int .u64 x1) (.int .u64 x2) (.int .u64 x3) (.int .u64 b) (.string s) (.slice la kids.length lc) (.slice ka ks.length kc) ∧ Row10 wr (w.heap.size + 1) (.int .i64 8) (.bool h) (.int .u64 y0) (.int .u64 y1) (.int .u64 y2) (.int .u64 y3) (.int .u64 b') (.string s') (.slice la' us.length lc') (.slice ka' ks'.length kc')) ∧ Hid (∀ c ∈ ((fs.zip us).take k).map (fun p => p.1 p.2), c = 0)) (fun i _ _ => kids.length - (intOf i).toNat)
      case atStart => exact ⟨0, Nat.zero_le _, Nat.zero_le _, rfl, BW, (show Hid _ from fun c hc => by simp at hc)⟩
      case round =>
        clear BW
        obtain ⟨k2, hk2, hkb2, rfl, BW, AN⟩ := hrel
        obtain ⟨p0, p1, p2, p3, p4, p5, p6, p7, p8, p9⟩ := BW.out.2.1.parts
        obtain ⟨t0, t1, t2, t3, t4, t5, t6, t7, t8, t9⟩ := BW.out.2.2.parts
        clear p0 p1 p2 p3 p4 p5 p6 p7 p9 t0 t1 t2 t3 t4 t5 t6 t7 t9
        by_cases hlt : k2 < kids.length
        · have hi1 : (k2 : Int) < (kids.length : Int) := by omega
          by_cases hlt2 : k2 < us.length
          · have hi2 : (k2 : Int) < (us.length : Int) := by omega
            obtain ⟨x, hx, _⟩ := kid_at hlt
            obtain ⟨y, hy, _⟩ := kid_at hlt2
            obtain ⟨f, hf⟩ : ∃ f, fs[k2]? = some f := ⟨_, List.getElem?_eq_getElem (by have := HFS.out; omega)⟩
            have hra := (HLA.out.cells k2 x hx).keep BW.out.1
            have hrb := (HLB.out.cells k2 y hy).keep BW.out.1
            obtain rfl : la = some ⟨bb, off, none⟩ := HLA.out.la (by omega)
            obtain rfl : la' = some ⟨bb', off', none⟩ := HLB.out.la (by omega)
            have hcall := HP.out k2 x y f hx hy hf
            have hz := fun h0 => zero_next (f := fun p : (VT → Int) × VT => p.1 p.2) (zip_at hf hy) AN.out h0
            have hh := fun h0 => cmpF_hit hf hy AN.out h0
            dsimp only at hz
            generalize f y = C at *
            have HZ := Lib.hid hz; have HH := Lib.hid hh
            clear hx hy hf hz hh
            obtain ⟨o2, l2⟩ := x
            obtain ⟨kd2, g2, x2', b2, s2, la2, lc2, ka2, kc2, ks2⟩ := o2
            obtain ⟨o3, l3⟩ := y
            obtain ⟨kd3, g3, x3', b3, s3, la3, lc3, ka3, kc3, ks3⟩ := o3
            simp only [VT.val, VT.cells, VT.o_mk, VT.kids_mk] at hcall
            obtain ⟨c0, c1, c2, c3, c4, c5, c6, c7, c8, c9⟩ := hra.ten
            obtain ⟨d0, d1, d2, d3, d4, d5, d6, d7, d8, d9⟩ := hrb.ten
            have HCALL := Lib.hid hcall
            clear hra hrb hcall
            by_cases h0 : C = 0
            · subst h0
              have HN := Lib.hid (HZ.out rfl)
              clear HZ HH
              go_upto_region 24 with (fail)
              have zp8 := cell_regrown p8
              have zt8 := cell_regrown t8
              have zc0 := cell_regrown c0
              have zc1 := cell_regrown c1
              have zc2 := cell_regrown c2
              have zc3 := cell_regrown c3
              have zc4 := cell_regrown c4
              have zc5 := cell_regrown c5
              have zc6 := cell_regrown c6
              have zc7 := cell_regrown c7
              have zc8 := cell_regrown c8
              have zc9 := cell_regrown c9
              have zd0 := cell_regrown d0
              have zd1 := cell_regrown d1
              have zd2 := cell_regrown d2
              have zd3 := cell_regrown d3
              have zd4 := cell_regrown d4
              have zd5 := cell_regrown d5
              have zd6 := cell_regrown d6
              have zd7 := cell_regrown d7
              have zd8 := cell_regrown d8
              have zd9 := cell_regrown d9
              clear p8 t8 c0 c1 c2 c3 c4 c5 c6 c7 c8 c9 d0 d1 d2 d3 d4 d5 d6 d7 d8 d9
              have cq0 := fun (d : Nat) (os : Array Obj) => Calls.regrown_of (w := wr) (d := d) (os := os) (HCALL.out _ (btr BW.out.1 (below_regrown wr d os)))
              refine wp_region_quiet_below (by kernel_rfl) (by kernel_rfl) ?_
              repeat (first | go_big_quiet_step ((first | with_reducible exact cq0 _ _)) | quiet_step (first | with_reducible exact cq0 _ _))
              refine wpQuiet_nil ?_
              intro _ hw'
              obtain ⟨⟨dq, osq⟩, hw''⟩ := hw'
              subst hw''
              clear zp8 zt8 zc0 zc1 zc2 zc3 zc4 zc5 zc6 zc7 zc8 zc9 zd0 zd1 zd2 zd3 zd4 zd5 zd6 zd7 zd8 zd9 cq0
              have BV := Lib.hid (And.intro (btr BW.out.1 (below_regrown wr dq osq)) (And.intro (Row10.keep (below_regrown wr dq osq) BW.out.2.1) (Row10.keep (below_regrown wr dq osq) BW.out.2.2)))
              generalize grow (redrawn wr dq) osq = w9 at *
              go_wp2
              go_roundw
              case rel => exact ⟨k2 + 1, by omega, by omega, by go_num, BV, HN⟩
              case measure => simp [intOf]; omega
            · have HN := Lib.hid (HH.out h0)
              have hb0 : (C != 0) = true := bne_iff_ne.2 h0
              clear h0 HZ HH
              go_upto_region 24 with (fail)
              have zp8 := cell_regrown p8
              have zt8 := cell_regrown t8
              have zc0 := cell_regrown c0
              have zc1 := cell_regrown c1
              have zc2 := cell_regrown c2
              have zc3 := cell_regrown c3
              have zc4 := cell_regrown c4
              have zc5 := cell_regrown c5
              have zc6 := cell_regrown c6
              have zc7 := cell_regrown c7
              have zc8 := cell_regrown c8
              have zc9 := cell_regrown c9
              have zd0 := cell_regrown d0
              have zd1 := cell_regrown d1
              have zd2 := cell_regrown d2
              have zd3 := cell_regrown d3
              have zd4 := cell_regrown d4
              have zd5 := cell_regrown d5
              have zd6 := cell_regrown d6
              have zd7 := cell_regrown d7
              have zd8 := cell_regrown d8
              have zd9 := cell_regrown d9
              clear p8 t8 c0 c1 c2 c3 c4 c5 c6 c7 c8 c9 d0 d1 d2 d3 d4 d5 d6 d7 d8 d9
              have cq0 := fun (d : Nat) (os : Array Obj) => Calls.regrown_of (w := wr) (d := d) (os := os) (HCALL.out _ (btr BW.out.1 (below_regrown wr d os)))
              refine wp_region_quiet_below (by kernel_rfl) (by kernel_rfl) ?_
              repeat (first | go_big_quiet_step ((first | with_reducible exact cq0 _ _)) | quiet_step (first | with_reducible exact cq0 _ _))
              refine wpQuiet_nil ?_
              intro _ hw'
              obtain ⟨⟨dq, osq⟩, hw''⟩ := hw'
              subst hw''
              clear zp8 zt8 zc0 zc1 zc2 zc3 zc4 zc5 zc6 zc7 zc8 zc9 zd0 zd1 zd2 zd3 zd4 zd5 zd6 zd7 zd8 zd9 cq0
              have BV := Lib.hid (btr BW.out.1 (below_regrown wr dq osq))
              generalize grow (redrawn wr dq) osq = w9 at *
              go_wp2
              go_ret
              exact ⟨ret_int (by rw [HRR.out, HR.out, if_pos rfl, HN.out]), BV.out⟩
          · have hi2 : ¬ (k2 : Int) < (us.length : Int) := by omega
            have HE := Lib.hid (cmpF_end (fs := fs) (us := us) (.inr (by omega)) AN.out)
            rw [HFS.out] at HE
            have ew1 : IntKind.u64.wrap (kids.length : Int) = (kids.length : Int) := IntWalk.u64_in _ (by omega)
            have ew2 : IntKind.u64.wrap (us.length : Int) = (us.length : Int) := IntWalk.u64_in _ (by omega)
            go_wp2_with (go_at_call 60; ((with_reducible refine (rsign _ _ _).mono ?_); rintro e w1 ⟨rfl, hb1⟩))
            go_ret
            exact ⟨ret_int (by rw [HRR.out, HR.out, if_pos rfl, HE.out]), btr BW.out.1 hb1⟩
        · have hi1 : ¬ (k2 : Int) < (kids.length : Int) := by omega
          have HE := Lib.hid (cmpF_end (fs := fs) (us := us) (.inl (by have := HFS.out; omega)) AN.out)
          rw [HFS.out] at HE
          have ew1 : IntKind.u64.wrap (kids.length : Int) = (kids.length : Int) := IntWalk.u64_in _ (by omega)
          have ew2 : IntKind.u64.wrap (us.length : Int) = (us.length : Int) := IntWalk.u64_in _ (by omega)
          go_wp2_with (go_at_call 60; ((with_reducible refine (rsign _ _ _).mono ?_); rintro e w1 ⟨rfl, hb1⟩))
          go_ret
          exact ⟨ret_int (by rw [HRR.out, HR.out, if_pos rfl, HE.out]), btr BW.out.1 hb1⟩
/-- entrepotref6.Cmp, of what may be. -/
theorem rcmp6 : ∀ (T U : VT) (w : World), T.In w → U.In w → Good T → Good U → Calls Tryz.prog 23 #[T.val, U.val] w fun e w' => e = .returned (.int .i64 (cmpT T U)) ∧ Below w.heap.size w w' := by
  intro T
  induction T using VT.ind with
  | h o kids ih =>
    intro U w hT hU gT gU
    obtain ⟨kb, koff, hK⟩ := hT.keys'
    obtain ⟨bb, off, hL⟩ := hT.kids'
    obtain ⟨o', us⟩ := U
    obtain ⟨kb', koff', hK'⟩ := hU.keys'
    obtain ⟨bb', off', hL'⟩ := hU.kids'
    have hp : ∀ (k : Nat) (t u : VT) (f : VT → Int), kids[k]? = some t → us[k]? = some u → (kids.map cmpT)[k]? = some f → ∀ W, Below w.heap.size w W → Calls Tryz.prog 23 #[t.val, u.val] W fun e w' => e = .returned (.int .i64 (f u)) ∧ Below W.heap.size W w' := fun k t u f ht hu hf W hb => by
      rw [List.getElem?_map, ht] at hf
      obtain rfl := Option.some.inj hf
      exact ih t (List.mem_of_getElem? ht) u W ((hL.ins k t ht).keep hb) ((hL'.ins k u hu).keep hb) (gT.kid (List.mem_of_getElem? ht)) (gU.kid (List.mem_of_getElem? hu))
    have o1 := own_okI gT.own gT.2.own
    have o2 := own_okI gU.own gU.2.own
    have kk := own_kind gT.own
    have kk' := own_kind gU.own
    have x1 := gT.2.own
    have x2 := gU.2.own
    obtain ⟨_, _, _, _, p5⟩ := out_facts x1 (by have := gT.own; unfold ownB at this; rw [Bool.and_eq_true] at this; exact this.1)
    obtain ⟨_, _, _, _, q5⟩ := out_facts x2 (by have := gU.own; unfold ownB at this; rw [Bool.and_eq_true] at this; exact this.1)
    have hkl := hK.len
    have hkl' := hK'.len
    rw [cmpT, val_eq, val_eq]
    obtain ⟨kd, g, x, b, s, la, lc, ka, kc, ks⟩ := o
    obtain ⟨kd', g', x', b', s', la', lc', ka', kc', ks'⟩ := o'
    simp only [VT.o_mk, VT.kids_mk] at *
    unfold cmpO
    by_cases hkk : kd = kd'
    · subst hkk
      rw [if_pos rfl]
      by_cases h2 : kd = 2
      · subst h2; rw [if_pos (.inl rfl)]; exact rcmp_k2 _ _ _ _ _ _ _ _ _ _ _ _ _ _ _ _ _ _ _ _ _ _ ks ks' kids us w
      by_cases h4 : kd = 4
      · subst h4; rw [if_pos (.inr rfl)]; exact rcmp_k4 _ _ _ _ _ _ _ _ _ _ _ _ _ _ _ _ _ _ _ _ _ _ ks ks' kids us w
      rw [if_neg (by omega)]
      by_cases h3 : kd = 3
      · subst h3
        rw [if_pos rfl]
        have k1 := fun W => rcmpint_z (cmpI g x) (cmpI g' x') (by rw [cmpI_abs]; exact x1) (by rw [cmpI_abs]; exact x2) W
        rw [← I5_cmpI (o1 rfl), ← I5_cmpI (o2 rfl)] at k1
        unfold cmpW
        rw [if_neg (fun e => e.elim (o1 rfl) (o2 rfl))]
        exact rcmp_k3 _ _ _ _ _ _ _ _ _ _ _ _ _ _ _ _ _ _ _ _ _ _ _ ks ks' kids us w k1
      rw [if_neg h3]
      by_cases h5 : kd = 5
      · subst h5; rw [if_pos (.inl rfl)]; exact rcmp_k5 _ _ _ _ _ _ _ _ _ _ _ _ _ _ _ _ _ _ _ _ _ _ ks ks' kids us w
      by_cases h6 : kd = 6
      · subst h6; rw [if_pos (.inr rfl)]; exact rcmp_k6 _ _ _ _ _ _ _ _ _ _ _ _ _ _ _ _ _ _ _ _ _ _ ks ks' kids us w
      rw [if_neg (by omega)]
      by_cases h7 : kd = 7
      · subst h7; rw [if_pos rfl]; exact rcmp_k7 kb koff kb' koff' bb off bb' off' (kids.map cmpT) _ _ _ _ _ _ _ _ _ _ _ _ _ _ _ _ _ _ _ _ _ _ ks ks' kids us w hK hK' hL hL' (by simp) hp
      rw [if_neg h7]
      by_cases h8 : kd = 8
      · subst h8
        rw [if_pos rfl]
        by_cases hl : ks.length = ks'.length
        · rw [if_pos hl]
          exact rcmp_map kb koff kb' koff' bb off bb' off' (kids.map cmpT) _ _ _ _ _ _ _ _ _ _ _ _ _ _ _ _ _ _ _ _ _ _ _ ks ks' kids us w rfl (by rw [hl]; simp) hK hK' hL hL' (by simp) hp
        · rw [if_neg hl]
          exact rcmp_len _ _ _ _ _ _ _ _ _ _ _ _ _ _ _ _ _ _ _ _ _ _ ks ks' kids us w (bne_iff_ne.2 (by omega)) hkl hkl'
      rw [if_neg h8]
      obtain rfl : kd = 1 := by omega
      have e1 : kids = [] := List.eq_nil_of_length_eq_zero (p5 h7 h8)
      have e2 : us = [] := List.eq_nil_of_length_eq_zero (q5 h7 h8)
      have := rcmp_k1 kb koff kb' koff' bb off bb' off' (kids.map cmpT) g (lb 0 x) (lb 1 x) (lb 2 x) (lb 3 x) b s la lc ka kc g' (lb 0 x') (lb 1 x') (lb 2 x') (lb 3 x') b' s' la' lc' ka' kc' ks ks' kids us w hK hK' hL hL' (by simp) hp
      have e3 : cmpF (kids.map cmpT) us = 0 := by rw [e1, e2]; rfl
      rw [e3] at this
      exact this
    · rw [if_neg hkk]
      exact rcmp_kinds kd kd' (bne_iff_ne.2 hkk) (by omega) (by omega) _ _ _ _ _ _ _ _ _ _ _ _ _ _ _ _ _ _ _ _ _ _ ks ks' kids us w
end Go.Proofs.YtgklokjilfeklaaGreatDoor
