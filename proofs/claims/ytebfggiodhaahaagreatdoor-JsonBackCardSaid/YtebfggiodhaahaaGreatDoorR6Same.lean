/-
  entrepotref6.Same: the contract.
-/
import Derived.Test.YtebfggiodhaahaaGreatDoorValSameT
import Derived.Lib.QuietBelow
import Derived.BigQuiet
namespace Go.Proofs.YtebfggiodhaahaaGreatDoor
open Go.RowKit Go.Shelf
open Go.Sort (grow)
attribute [local go_sem ↓] eql_nat neq_nat eql_int5 neq_int5

set_option maxHeartbeats 2000000 in
theorem rsame_no1 (kd kd' : Int) (g : Bool) (x0 x1 x2 x3 b : Int) (s : ByteArray) (la : Option Addr) (lc : Nat) (ka : Option Addr) (kc : Nat) (h : Bool) (y0 y1 y2 y3 b' : Int) (s' : ByteArray) (la' : Option Addr) (lc' : Nat) (ka' : Option Addr) (kc' : Nat) (ks ks' : List ByteArray) (kids us : List VT) (h1 : ((kd != kd') = true)) (w : World) :
    Calls Tryz.prog 8 #[V10 kd g x0 x1 x2 x3 b s la kids.length lc ka ks.length kc, V10 kd' h y0 y1 y2 y3 b' s' la' us.length lc' ka' ks'.length kc'] w fun e w' => e = .returned (.bool false) ∧ Below w.heap.size w w' := by
  go_enter Tryz.func8, Tryz.ntmps8
  go_wp2
  go_ret
  exact ⟨rfl, (bal (bal (Below.refl _ _) _) _)⟩
set_option maxHeartbeats 2000000 in
theorem rsame_no2 (kd kd' : Int) (g : Bool) (x0 x1 x2 x3 b : Int) (s : ByteArray) (la : Option Addr) (lc : Nat) (ka : Option Addr) (kc : Nat) (h : Bool) (y0 y1 y2 y3 b' : Int) (s' : ByteArray) (la' : Option Addr) (lc' : Nat) (ka' : Option Addr) (kc' : Nat) (ks ks' : List ByteArray) (kids us : List VT) (h1 : ((kd != kd') = false)) (h2 : (eq5 g x0 x1 x2 x3 h y0 y1 y2 y3 = false)) (w : World) :
    Calls Tryz.prog 8 #[V10 kd g x0 x1 x2 x3 b s la kids.length lc ka ks.length kc, V10 kd' h y0 y1 y2 y3 b' s' la' us.length lc' ka' ks'.length kc'] w fun e w' => e = .returned (.bool false) ∧ Below w.heap.size w w' := by
  go_enter Tryz.func8, Tryz.ntmps8
  go_wp2
  go_ret
  exact ⟨rfl, (bal (bal (Below.refl _ _) _) _)⟩
set_option maxHeartbeats 2000000 in
theorem rsame_no3 (kd kd' : Int) (g : Bool) (x0 x1 x2 x3 b : Int) (s : ByteArray) (la : Option Addr) (lc : Nat) (ka : Option Addr) (kc : Nat) (h : Bool) (y0 y1 y2 y3 b' : Int) (s' : ByteArray) (la' : Option Addr) (lc' : Nat) (ka' : Option Addr) (kc' : Nat) (ks ks' : List ByteArray) (kids us : List VT) (h1 : ((kd != kd') = false)) (h2 : (eq5 g x0 x1 x2 x3 h y0 y1 y2 y3 = true)) (h3 : ((b != b') = true)) (w : World) :
    Calls Tryz.prog 8 #[V10 kd g x0 x1 x2 x3 b s la kids.length lc ka ks.length kc, V10 kd' h y0 y1 y2 y3 b' s' la' us.length lc' ka' ks'.length kc'] w fun e w' => e = .returned (.bool false) ∧ Below w.heap.size w w' := by
  go_enter Tryz.func8, Tryz.ntmps8
  go_wp2
  go_ret
  exact ⟨rfl, (bal (bal (Below.refl _ _) _) _)⟩
set_option maxHeartbeats 2000000 in
theorem rsame_no4 (kd kd' : Int) (g : Bool) (x0 x1 x2 x3 b : Int) (s : ByteArray) (la : Option Addr) (lc : Nat) (ka : Option Addr) (kc : Nat) (h : Bool) (y0 y1 y2 y3 b' : Int) (s' : ByteArray) (la' : Option Addr) (lc' : Nat) (ka' : Option Addr) (kc' : Nat) (ks ks' : List ByteArray) (kids us : List VT) (h1 : ((kd != kd') = false)) (h2 : (eq5 g x0 x1 x2 x3 h y0 y1 y2 y3 = true)) (h3 : ((b != b') = false)) (h4 : ((s.toList == s'.toList) = false)) (w : World) :
    Calls Tryz.prog 8 #[V10 kd g x0 x1 x2 x3 b s la kids.length lc ka ks.length kc, V10 kd' h y0 y1 y2 y3 b' s' la' us.length lc' ka' ks'.length kc'] w fun e w' => e = .returned (.bool false) ∧ Below w.heap.size w w' := by
  go_enter Tryz.func8, Tryz.ntmps8
  go_wp2
  go_ret
  exact ⟨rfl, (bal (bal (Below.refl _ _) _) _)⟩
set_option maxHeartbeats 2000000 in
theorem rsame_no5 (kd kd' : Int) (g : Bool) (x0 x1 x2 x3 b : Int) (s : ByteArray) (la : Option Addr) (lc : Nat) (ka : Option Addr) (kc : Nat) (h : Bool) (y0 y1 y2 y3 b' : Int) (s' : ByteArray) (la' : Option Addr) (lc' : Nat) (ka' : Option Addr) (kc' : Nat) (ks ks' : List ByteArray) (kids us : List VT) (h1 : ((kd != kd') = false)) (h2 : (eq5 g x0 x1 x2 x3 h y0 y1 y2 y3 = true)) (h3 : ((b != b') = false)) (h4 : ((s.toList == s'.toList) = true)) (h5 : (((kids.length : Int) != (us.length : Int)) = true)) (w : World) :
    Calls Tryz.prog 8 #[V10 kd g x0 x1 x2 x3 b s la kids.length lc ka ks.length kc, V10 kd' h y0 y1 y2 y3 b' s' la' us.length lc' ka' ks'.length kc'] w fun e w' => e = .returned (.bool false) ∧ Below w.heap.size w w' := by
  go_enter Tryz.func8, Tryz.ntmps8
  go_wp2
  go_ret
  exact ⟨rfl, (bal (bal (Below.refl _ _) _) _)⟩
set_option maxHeartbeats 2000000 in
theorem rsame_no6 (kd kd' : Int) (g : Bool) (x0 x1 x2 x3 b : Int) (s : ByteArray) (la : Option Addr) (lc : Nat) (ka : Option Addr) (kc : Nat) (h : Bool) (y0 y1 y2 y3 b' : Int) (s' : ByteArray) (la' : Option Addr) (lc' : Nat) (ka' : Option Addr) (kc' : Nat) (ks ks' : List ByteArray) (kids us : List VT) (h1 : ((kd != kd') = false)) (h2 : (eq5 g x0 x1 x2 x3 h y0 y1 y2 y3 = true)) (h3 : ((b != b') = false)) (h4 : ((s.toList == s'.toList) = true)) (h5 : (((kids.length : Int) != (us.length : Int)) = false)) (h6 : (((ks.length : Int) != (ks'.length : Int)) = true)) (w : World) :
    Calls Tryz.prog 8 #[V10 kd g x0 x1 x2 x3 b s la kids.length lc ka ks.length kc, V10 kd' h y0 y1 y2 y3 b' s' la' us.length lc' ka' ks'.length kc'] w fun e w' => e = .returned (.bool false) ∧ Below w.heap.size w w' := by
  go_enter Tryz.func8, Tryz.ntmps8
  go_wp2
  go_ret
  exact ⟨rfl, (bal (bal (Below.refl _ _) _) _)⟩
set_option maxRecDepth 100000 in
set_option maxHeartbeats 8000000 in
theorem rsame_core (kd kd' : Int) (g : Bool) (x0 x1 x2 x3 b : Int) (s : ByteArray) (la : Option Addr) (lc : Nat) (ka : Option Addr) (kc : Nat) (h : Bool) (y0 y1 y2 y3 b' : Int) (s' : ByteArray) (la' : Option Addr) (lc' : Nat) (ka' : Option Addr) (kc' : Nat) (ks ks' : List ByteArray) (kids us : List VT) (h1 : ((kd != kd') = false)) (h2 : (eq5 g x0 x1 x2 x3 h y0 y1 y2 y3 = true)) (h3 : ((b != b') = false)) (h4 : ((s.toList == s'.toList) = true)) (h5 : (((kids.length : Int) != (us.length : Int)) = false)) (h6 : (((ks.length : Int) != (ks'.length : Int)) = false)) (kb koff kb' koff' bb off bb' off' : Nat) (fs : List (VT → Bool)) (w : World) (hKA : KeysL w ka ks kb koff) (hKB : KeysL w ka' ks' kb' koff') (hLA : Kids w la kids bb off) (hLB : Kids w la' us bb' off') (hfs : fs.length = kids.length)
    (hp : ∀ (k : Nat) (t u : VT) (f : VT → Bool), kids[k]? = some t → us[k]? = some u → fs[k]? = some f → ∀ W, Below w.heap.size w W → Calls Tryz.prog 8 #[t.val, u.val] W fun e w' => e = .returned (.bool (f u)) ∧ Below W.heap.size W w') :
    Calls Tryz.prog 8 #[V10 kd g x0 x1 x2 x3 b s la kids.length lc ka ks.length kc, V10 kd' h y0 y1 y2 y3 b' s' la' us.length lc' ka' ks'.length kc'] w fun e w' => e = .returned (.bool (keysEq ks ks' && kidsEq fs us)) ∧ Below w.heap.size w w' := by
  have hna := hKA.len; have hnb := hKB.len; have hla := hLA.len; have hlb := hLB.len
  have hml : kids.length = us.length := by rw [bne_eq_false_iff_eq] at h5; omega
  have hmk : ks.length = ks'.length := by rw [bne_eq_false_iff_eq] at h6; omega
  have HKA := Lib.hid hKA; have HKB := Lib.hid hKB; have HLA := Lib.hid hLA; have HLB := Lib.hid hLB; have HFS := Lib.hid hfs; have HP := Lib.hid hp; have HML := Lib.hid hml; have HMK := Lib.hid hmk
  clear hKA hKB hLA hLB hfs hp hml hmk
  go_enter Tryz.func8, Tryz.ntmps8
  go_wp2
  clear h1 h2 h3 h4 h5 h6
  go_loopw [5] (fun i wr => ∃ k : Nat, k ≤ ks.length ∧ i = .int .i64 k ∧ Hid (Below w.heap.size w wr ∧ Row10 wr w.heap.size (.int .i64 kd) (.bool g) (.int .u64 x0) (.int .u64 x1) (.int .u64 x2) (.int .u64 x3) (.int .u64 b) (.string s) (.slice la kids.length lc) (.slice ka ks.length kc) ∧ Row10 wr (w.heap.size + 1) (.int .i64 kd') (.bool h) (.int .u64 y0) (.int .u64 y1) (.int .u64 y2) (.int .u64 y3) (.int .u64 b') (.string s') (.slice la' us.length lc') (.slice ka' ks'.length kc')) ∧ Hid ((((ks.zip ks').take k).all fun p => p.1.toList == p.2.toList) = true)) (fun i _ => ks.length - (intOf i).toNat)
  case atStart => exact ⟨0, Nat.zero_le _, rfl, (show Hid _ from ⟨(bal (bal (Below.refl _ _) _) _), Row10.alloc (Row10.new _ _ _ _ _ _ _ _ _ _ _) _, row10_new2 _ _ _ _ _ _ _ _ _ _ _ _⟩), (show Hid _ from by show _ = _; simp)⟩
  case round =>
    obtain ⟨k, hk, rfl, BW, AN⟩ := hrel
    obtain ⟨p0, p1, p2, p3, p4, p5, p6, p7, p8, p9⟩ := BW.out.2.1.parts
    obtain ⟨t0, t1, t2, t3, t4, t5, t6, t7, t8, t9⟩ := BW.out.2.2.parts
    clear p0 p1 p2 p3 p4 p5 p6 p7 t0 t1 t2 t3 t4 t5 t6 t7
    by_cases hlt : k < ks.length
    · obtain ⟨x, hx, _⟩ := key_at hlt
      have hkb : k < ks'.length := by have := HMK.out; omega
      obtain ⟨y, hy, _⟩ := key_at hkb
      have hra := cell_keep BW.out.1 (HKA.out.cells k x hx)
      have hrb := cell_keep BW.out.1 (HKB.out.cells k y hy)
      obtain rfl : ka = some ⟨kb, koff, none⟩ := HKA.out.ka (by omega)
      obtain rfl : ka' = some ⟨kb', koff', none⟩ := HKB.out.ka (by omega)
      have hi1 : (k : Int) < (ks.length : Int) := by omega
      have hi2 : (k : Int) < (ks'.length : Int) := by omega
      have hnx := zall_next (p := fun p : ByteArray × ByteArray => p.1.toList == p.2.toList) (zip_at hx hy)
      have hno := keysEq_no hx hy
      have hxy : ∃ q, (x.toList == y.toList) = q := ⟨_, rfl⟩
      obtain ⟨q, hq⟩ := hxy
      dsimp only at hnx
      rw [hq] at hno hnx
      have HNX := Lib.hid hnx; have HNO := Lib.hid hno
      clear hnx hno hx hy
      cases q
      all_goals
        go_upto_region 6 with (fail)
        have zp8 := cell_regrown p8
        have zp9 := cell_regrown p9
        have zt8 := cell_regrown t8
        have zt9 := cell_regrown t9
        have zhra := cell_regrown hra
        have zhrb := cell_regrown hrb
        clear p8 p9 t8 t9 hra hrb
        refine wp_region_quiet_below (by kernel_rfl) (by kernel_rfl) ?_
        repeat (first | go_big_quiet_step ((first | fail)) | quiet_step (first | fail))
        refine wpQuiet_nil ?_
        intro _ hw'
        obtain ⟨⟨dq, osq⟩, hw''⟩ := hw'
        subst hw''
        clear zp8 zp9 zt8 zt9 zhra zhrb 
        have BV := Lib.hid (And.intro (btr BW.out.1 (below_regrown wr dq osq)) (And.intro (Row10.keep (below_regrown wr dq osq) BW.out.2.1) (Row10.keep (below_regrown wr dq osq) BW.out.2.2)))
        generalize grow (redrawn wr dq) osq = w9 at *
        first
        | (go_wp2
           go_ret
           exact ⟨ret_bool (by rw [HNO.out (by trivial)]; rfl), BV.out.1⟩)
        | (go_wp2
           go_roundw
           case rel => exact ⟨k + 1, by omega, by go_num, BV, (show Hid _ from by show _ = _; rw [HNX.out, AN.out]; rfl)⟩
           case measure => simp [intOf]; omega)
    · have hge : ¬ (k : Int) < (ks.length : Int) := by omega
      have HR := Lib.hid (keysEq_yes HMK.out (by omega) AN.out)
      go_wp2
      clear p8 p9 t8 t9 AN hlt hge
      obtain ⟨wo, hwo⟩ : ∃ wo : World, wo = wr := ⟨_, rfl⟩
      subst hwo
      go_loopw [6] (fun i wr => ∃ k : Nat, k ≤ kids.length ∧ i = .int .i64 k ∧ Hid (Below w.heap.size w wr ∧ Row10 wr w.heap.size (.int .i64 kd) (.bool g) (.int .u64 x0) (.int .u64 x1) (.int .u64 x2) (.int .u64 x3) (.int .u64 b) (.string s) (.slice la kids.length lc) (.slice ka ks.length kc) ∧ Row10 wr (w.heap.size + 1) (.int .i64 kd') (.bool h) (.int .u64 y0) (.int .u64 y1) (.int .u64 y2) (.int .u64 y3) (.int .u64 b') (.string s') (.slice la' us.length lc') (.slice ka' ks'.length kc')) ∧ Hid ((((fs.zip us).take k).all fun p => p.1 p.2) = true)) (fun i _ => kids.length - (intOf i).toNat)
      case atStart => exact ⟨0, Nat.zero_le _, rfl, BW, (show Hid _ from by show _ = _; simp)⟩
      case round =>
        clear BW
        obtain ⟨k2, hk2, rfl, BW, AN⟩ := hrel
        obtain ⟨p0, p1, p2, p3, p4, p5, p6, p7, p8, p9⟩ := BW.out.2.1.parts
        obtain ⟨t0, t1, t2, t3, t4, t5, t6, t7, t8, t9⟩ := BW.out.2.2.parts
        clear p0 p1 p2 p3 p4 p5 p6 p7 p9 t0 t1 t2 t3 t4 t5 t6 t7 t9
        by_cases hlt : k2 < kids.length
        · obtain ⟨x, hx, _⟩ := kid_at hlt
          have hkb : k2 < us.length := by have := HML.out; omega
          obtain ⟨y, hy, _⟩ := kid_at hkb
          obtain ⟨f, hf⟩ : ∃ f, fs[k2]? = some f := ⟨_, List.getElem?_eq_getElem (by have := HFS.out; omega)⟩
          have hra := (HLA.out.cells k2 x hx).keep BW.out.1
          have hrb := (HLB.out.cells k2 y hy).keep BW.out.1
          obtain rfl : la = some ⟨bb, off, none⟩ := HLA.out.la (by omega)
          obtain rfl : la' = some ⟨bb', off', none⟩ := HLB.out.la (by omega)
          have hi1 : (k2 : Int) < (kids.length : Int) := by omega
          have hi2 : (k2 : Int) < (us.length : Int) := by omega
          have hnx := zall_next (p := fun p : (VT → Bool) × VT => p.1 p.2) (zip_at hf hy)
          have hno := kidsEq_no hf hy
          have hcall := HP.out k2 x y f hx hy hf
          dsimp only at hnx
          have hxy : ∃ q, f y = q := ⟨_, rfl⟩
          obtain ⟨q, hq⟩ := hxy
          rw [hq] at hno hnx hcall
          have HNX := Lib.hid hnx; have HNO := Lib.hid hno
          clear hnx hno hx hy hf hq
          obtain ⟨o2, l2⟩ := x
          obtain ⟨kd2, g2, x2', b2, s2, la2, lc2, ka2, kc2, ks2⟩ := o2
          obtain ⟨o3, l3⟩ := y
          obtain ⟨kd3, g3, x3', b3, s3, la3, lc3, ka3, kc3, ks3⟩ := o3
          simp only [VT.val, VT.cells, VT.o_mk, VT.kids_mk] at hcall
          obtain ⟨c0, c1, c2, c3, c4, c5, c6, c7, c8, c9⟩ := hra.ten
          obtain ⟨d0, d1, d2, d3, d4, d5, d6, d7, d8, d9⟩ := hrb.ten
          have HCALL := Lib.hid hcall
          clear hra hrb hcall
          cases q
          all_goals
            go_upto_region 11 with (fail)
            have zp8 := cell_regrown p8
            have zt8 := cell_regrown t8
            have zc0 := cell_regrown c0
            have zc1 := cell_regrown c1
            have zc2 := cell_regrown c2
            have zc3 := cell_regrown c3
            have zc4 := cell_regrown c4
            have zc5 := cell_regrown c5
            have zc6 := cell_regrown c6
            have zc7 := cell_regrown c7
            have zc8 := cell_regrown c8
            have zc9 := cell_regrown c9
            have zd0 := cell_regrown d0
            have zd1 := cell_regrown d1
            have zd2 := cell_regrown d2
            have zd3 := cell_regrown d3
            have zd4 := cell_regrown d4
            have zd5 := cell_regrown d5
            have zd6 := cell_regrown d6
            have zd7 := cell_regrown d7
            have zd8 := cell_regrown d8
            have zd9 := cell_regrown d9
            clear p8 t8 c0 c1 c2 c3 c4 c5 c6 c7 c8 c9 d0 d1 d2 d3 d4 d5 d6 d7 d8 d9
            have cq0 := fun (d : Nat) (os : Array Obj) => Calls.regrown_of (w := wr) (d := d) (os := os) (HCALL.out _ (btr BW.out.1 (below_regrown wr d os)))
            refine wp_region_quiet_below (by kernel_rfl) (by kernel_rfl) ?_
            repeat (first | go_big_quiet_step ((first | with_reducible exact cq0 _ _)) | quiet_step (first | with_reducible exact cq0 _ _))
            refine wpQuiet_nil ?_
            intro _ hw'
            obtain ⟨⟨dq, osq⟩, hw''⟩ := hw'
            subst hw''
            clear zp8 zt8 zc0 zc1 zc2 zc3 zc4 zc5 zc6 zc7 zc8 zc9 zd0 zd1 zd2 zd3 zd4 zd5 zd6 zd7 zd8 zd9 cq0
            have BV := Lib.hid (And.intro (btr BW.out.1 (below_regrown wr dq osq)) (And.intro (Row10.keep (below_regrown wr dq osq) BW.out.2.1) (Row10.keep (below_regrown wr dq osq) BW.out.2.2)))
            generalize grow (redrawn wr dq) osq = w9 at *
            first
            | (go_wp2
               go_ret
               exact ⟨ret_bool (by rw [HR.out, HNO.out (by trivial)]; rfl), BV.out.1⟩)
            | (go_wp2
               go_roundw
               case rel => exact ⟨k2 + 1, by omega, by go_num, BV, (show Hid _ from by show _ = _; rw [HNX.out, AN.out]; rfl)⟩
               case measure => simp [intOf]; omega)
        · have hge : ¬ (k2 : Int) < (kids.length : Int) := by omega
          have HRR := Lib.hid (kidsEq_yes (fs := fs) (us := us) (HFS.out.trans HML.out) (by have := HFS.out; omega) AN.out)
          go_wp2
          go_ret
          exact ⟨ret_bool (by rw [HR.out, HRR.out]; rfl), BW.out.1⟩
/-- entrepotref6.Same. -/
theorem rsame : ∀ (T U : VT) (w : World), T.In w → U.In w → Calls Tryz.prog 8 #[T.val, U.val] w fun e w' => e = .returned (.bool (sameT T U)) ∧ Below w.heap.size w w' := by
  intro T
  induction T using VT.ind with
  | h o kids ih =>
    intro U w hT hU
    obtain ⟨kb, koff, hK⟩ := hT.keys'
    obtain ⟨bb, off, hL⟩ := hT.kids'
    obtain ⟨o', us⟩ := U
    obtain ⟨kb', koff', hK'⟩ := hU.keys'
    obtain ⟨bb', off', hL'⟩ := hU.kids'
    have hp : ∀ (k : Nat) (t u : VT) (f : VT → Bool), kids[k]? = some t → us[k]? = some u → (kids.map sameT)[k]? = some f → ∀ W, Below w.heap.size w W → Calls Tryz.prog 8 #[t.val, u.val] W fun e w' => e = .returned (.bool (f u)) ∧ Below W.heap.size W w' := fun k t u f ht hu hf W hb => by
      rw [List.getElem?_map, ht] at hf
      obtain rfl := Option.some.inj hf
      exact ih t (List.mem_of_getElem? ht) u W ((hL.ins k t ht).keep hb) ((hL'.ins k u hu).keep hb)
    rw [sameT, val_eq, val_eq]
    simp only [VT.o_mk, VT.kids_mk]
    unfold eqO
    have q5 : (((kids.length : Int) != (us.length : Int)) = !((kids.length : Int) == (us.length : Int))) := rfl
    have q6 : (((o.keys.length : Int) != (o'.keys.length : Int)) = !((o.keys.length : Int) == (o'.keys.length : Int))) := rfl
    cases e1 : (o.kind == o'.kind) with
    | false => exact rsame_no1 _ _ _ _ _ _ _ _ _ _ _ _ _ _ _ _ _ _ _ _ _ _ _ _ o.keys o'.keys kids us (by show (!_) = _; rw [e1]; rfl) w
    | true =>
    cases e2 : eq5 o.g (lb 0 o.x) (lb 1 o.x) (lb 2 o.x) (lb 3 o.x) o'.g (lb 0 o'.x) (lb 1 o'.x) (lb 2 o'.x) (lb 3 o'.x) with
    | false => exact rsame_no2 _ _ _ _ _ _ _ _ _ _ _ _ _ _ _ _ _ _ _ _ _ _ _ _ o.keys o'.keys kids us (by show (!_) = _; rw [e1]; rfl) e2 w
    | true =>
    cases e3 : (o.bits == o'.bits) with
    | false => exact rsame_no3 _ _ _ _ _ _ _ _ _ _ _ _ _ _ _ _ _ _ _ _ _ _ _ _ o.keys o'.keys kids us (by show (!_) = _; rw [e1]; rfl) e2 (by show (!_) = _; rw [e3]; rfl) w
    | true =>
    cases e4 : (o.text.toList == o'.text.toList) with
    | false => exact rsame_no4 _ _ _ _ _ _ _ _ _ _ _ _ _ _ _ _ _ _ _ _ _ _ _ _ o.keys o'.keys kids us (by show (!_) = _; rw [e1]; rfl) e2 (by show (!_) = _; rw [e3]; rfl) e4 w
    | true =>
    cases e5 : ((kids.length : Int) == (us.length : Int)) with
    | false =>
      rw [show (true && (true && (true && (true && (((o.keys.length : Int) == (o'.keys.length : Int)) && false))))) = false by simp, Bool.false_and]
      exact rsame_no5 _ _ _ _ _ _ _ _ _ _ _ _ _ _ _ _ _ _ _ _ _ _ _ _ o.keys o'.keys kids us (by show (!_) = _; rw [e1]; rfl) e2 (by show (!_) = _; rw [e3]; rfl) e4 (by rw [q5, e5]; rfl) w
    | true =>
    cases e6 : ((o.keys.length : Int) == (o'.keys.length : Int)) with
    | false => exact rsame_no6 _ _ _ _ _ _ _ _ _ _ _ _ _ _ _ _ _ _ _ _ _ _ _ _ o.keys o'.keys kids us (by show (!_) = _; rw [e1]; rfl) e2 (by show (!_) = _; rw [e3]; rfl) e4 (by rw [q5, e5]; rfl) (by rw [q6, e6]; rfl) w
    | true => exact rsame_core _ _ _ _ _ _ _ _ _ _ _ _ _ _ _ _ _ _ _ _ _ _ _ _ o.keys o'.keys kids us (by show (!_) = _; rw [e1]; rfl) e2 (by show (!_) = _; rw [e3]; rfl) e4 (by rw [q5, e5]; rfl) (by rw [q6, e6]; rfl) kb koff kb' koff' bb off bb' off' (kids.map sameT) w hK hK' hL hL' (by simp) hp
end Go.Proofs.YtebfggiodhaahaaGreatDoor
