/-
  slices.Equal at texts, slices.EqualFunc at values, value.Same: the contracts.
-/
import Derived.Test.YtgklokjilfeklaaDoorValFew
import Derived.Lib.QuietBelow
import Derived.BigQuiet
namespace Go.Proofs.YtgklokjilfeklaaDoor
open Go.RowKit Go.Shelf
open Go.Sort (grow)
attribute [local go_sem ↓] eqlO eql_nat neq_nat eql_int5 neq_int5

/-- Lists of texts: the same? -/
def keysEq (a b : List ByteArray) : Bool := decide (a.length = b.length) && (a.zip b).all fun p => p.1.toList == p.2.toList
/-- Lists of values: the same, by a function of each of the first? -/
def kidsEq (fs : List (VT → Bool)) (us : List VT) : Bool := decide (fs.length = us.length) && (fs.zip us).all fun p => p.1 p.2
theorem zip_at {α β : Type} {a : List α} {b : List β} {k : Nat} {x : α} {y : β} (h1 : a[k]? = some x) (h2 : b[k]? = some y) : (a.zip b)[k]? = some (x, y) := by
  rw [List.getElem?_zip_eq_some]; exact ⟨h1, h2⟩
theorem zall_next {α : Type} {l : List α} {p : α → Bool} {k : Nat} {x : α} (h : l[k]? = some x) : (l.take (k + 1)).all p = ((l.take k).all p && p x) := by
  rw [take_next h, List.all_append]; simp
theorem zall_no {α : Type} {l : List α} {p : α → Bool} {k : Nat} {x : α} (h : l[k]? = some x) (hp : p x = false) : l.all p = false := by
  rw [Bool.eq_false_iff]
  intro ha
  rw [List.all_eq_true.1 ha x (List.mem_of_getElem? h)] at hp
  cases hp
theorem keysEq_no {a b : List ByteArray} {k : Nat} {x y : ByteArray} (h1 : a[k]? = some x) (h2 : b[k]? = some y) (h : (x.toList == y.toList) = false) : keysEq a b = false := by
  unfold keysEq
  rw [zall_no (zip_at h1 h2) h, Bool.and_false]
theorem keysEq_yes {a b : List ByteArray} {k : Nat} (hl : a.length = b.length) (hk : a.length ≤ k) (h : (((a.zip b).take k).all fun p => p.1.toList == p.2.toList) = true) : keysEq a b = true := by
  unfold keysEq
  rw [decide_eq_true hl, Bool.true_and]
  rwa [List.take_of_length_le (by rw [List.length_zip]; omega)] at h
theorem keysEq_len {a b : List ByteArray} (hl : a.length ≠ b.length) : keysEq a b = false := by unfold keysEq; rw [decide_eq_false hl]; rfl

set_option maxHeartbeats 2000000 in
theorem kequal (ka : Option Addr) (kc : Nat) (a : List ByteArray) (kb koff : Nat) (ka' : Option Addr) (kc' : Nat) (b : List ByteArray) (kb' koff' : Nat) (w : World) (hA : KeysL w ka a kb koff) (hB : KeysL w ka' b kb' koff') :
    Calls Tryd.prog 34 #[.slice ka a.length kc, .slice ka' b.length kc'] w fun e w' => e = .returned (.bool (keysEq a b)) ∧ Below w.heap.size w w' := by
  have hna := hA.len
  have hnb := hB.len
  by_cases hl : a.length = b.length
  · have HA := Lib.hid hA; have HB := Lib.hid hB; have HL := Lib.hid hl
    have hne : ((a.length : Int) != (b.length : Int)) = false := by rw [bne_eq_false_iff_eq]; omega
    have hlb : a.length ≤ b.length := by omega
    clear hA hB hl
    go_enter Tryd.func34, Tryd.ntmps34
    go_wp2
    go_loopw [5, 13] (fun _ i wr => ∃ k : Nat, k ≤ a.length ∧ i = .int .i64 k ∧ Hid (Below w.heap.size w wr) ∧ Hid ((((a.zip b).take k).all fun p => p.1.toList == p.2.toList) = true)) (fun _ i _ => a.length - (intOf i).toNat)
    case atStart => exact ⟨0, Nat.zero_le _, rfl, Below.refl _ _, (show Hid _ from by show _ = _; simp)⟩
    case round =>
      obtain ⟨k, hk, rfl, BW, AN⟩ := hrel
      clear hne
      by_cases hlt : k < a.length
      · obtain ⟨x, hx, _⟩ := key_at hlt
        obtain ⟨y, hy, _⟩ := key_at (show k < b.length by omega)
        have hra := cell_keep BW.out (HA.out.cells k x hx)
        have hrb := cell_keep BW.out (HB.out.cells k y hy)
        obtain rfl : ka = some ⟨kb, koff, none⟩ := HA.out.ka (by omega)
        obtain rfl : ka' = some ⟨kb', koff', none⟩ := HB.out.ka (by omega)
        have hi1 : (k : Int) < (a.length : Int) := by omega
        have hi2 : (k : Int) < (b.length : Int) := by omega
        have hnx := zall_next (p := fun p : ByteArray × ByteArray => p.1.toList == p.2.toList) (zip_at hx hy)
        have hno := keysEq_no hx hy
        have ra := cell_regrown hra; have rb := cell_regrown hrb
        have hxy : ∃ q, (x.toList == y.toList) = q := ⟨_, rfl⟩
        obtain ⟨q, hq⟩ := hxy
        dsimp only at hnx
        rw [hq] at hno hnx
        have HNX := Lib.hid hnx; have HNO := Lib.hid hno
        clear hnx hno hx hy hra hrb
        cases q
        all_goals
          go_upto_region 6 with (fail)
          refine wp_region_quiet_below (by kernel_rfl) (by kernel_rfl) ?_
          repeat (first | go_big_quiet_step (fail) | quiet_step (fail))
          refine wpQuiet_nil ?_
          intro _ hw'
          obtain ⟨⟨dq, osq⟩, hw''⟩ := hw'
          subst hw''
          have BV : Hid (Below w.heap.size w (grow (redrawn wr dq) osq)) := btr BW.out (below_regrown wr dq osq)
          clear ra rb
          generalize grow (redrawn wr dq) osq = w9 at *
          first
          | (go_wp2
             go_ret
             exact ⟨ret_bool (by rw [HNO.out (by trivial)]), BV.out⟩)
          | (go_wp2
             go_roundw
             case rel => exact ⟨k + 1, by omega, by go_num, BV.out, (show Hid _ from by show _ = _; rw [HNX.out, AN.out]; rfl)⟩
             case measure => simp [intOf]; omega)
      · have hge : ¬ (k : Int) < (a.length : Int) := by omega
        have HR := Lib.hid (keysEq_yes HL.out (by omega) AN.out)
        go_wp2
        go_ret
        exact ⟨ret_bool HR.out.symm, BW.out⟩
  · rw [keysEq_len hl]
    have hne : ((a.length : Int) != (b.length : Int)) = true := by rw [bne_iff_ne]; omega
    clear hA hB hl
    go_enter Tryd.func34, Tryd.ntmps34
    go_wp2
    go_ret
    exact ⟨rfl, Below.refl _ _⟩

theorem kidsEq_len {fs : List (VT → Bool)} {us : List VT} (hl : fs.length ≠ us.length) : kidsEq fs us = false := by unfold kidsEq; rw [decide_eq_false hl]; rfl
theorem kidsEq_no {fs : List (VT → Bool)} {us : List VT} {k : Nat} {f : VT → Bool} {u : VT} (h1 : fs[k]? = some f) (h2 : us[k]? = some u) (h : f u = false) : kidsEq fs us = false := by
  unfold kidsEq
  rw [zall_no (zip_at h1 h2) h, Bool.and_false]
theorem kidsEq_yes {fs : List (VT → Bool)} {us : List VT} {k : Nat} (hl : fs.length = us.length) (hk : fs.length ≤ k) (h : (((fs.zip us).take k).all fun p => p.1 p.2) = true) : kidsEq fs us = true := by
  unfold kidsEq
  rw [decide_eq_true hl, Bool.true_and]
  rwa [List.take_of_length_le (by rw [List.length_zip]; omega)] at h

set_option maxRecDepth 100000 in
set_option maxHeartbeats 4000000 in
theorem vequal (gf : Nat) (eg : ∀ args w, (callFunc gf args).run Tryd.prog w = .ok (.enter gf args) w) (la : Option Addr) (lc : Nat) (a : List VT) (bb off : Nat) (la' : Option Addr) (lc' : Nat) (b : List VT) (bb' off' : Nat) (fs : List (VT → Bool)) (w : World) (hA : Kids w la a bb off) (hB : Kids w la' b bb' off') (hfs : fs.length = a.length)
    (hp : ∀ (k : Nat) (t u : VT) (f : VT → Bool), a[k]? = some t → b[k]? = some u → fs[k]? = some f → ∀ W, Below w.heap.size w W → Calls Tryd.prog gf #[t.val, u.val] W fun e w' => e = .returned (.bool (f u)) ∧ Below W.heap.size W w') :
    Calls Tryd.prog 35 #[.slice la a.length lc, .slice la' b.length lc', .func (.func gf) #[] #[]] w fun e w' => e = .returned (.bool (kidsEq fs b)) ∧ Below w.heap.size w w' := by
  have hna := hA.len
  have hnb := hB.len
  by_cases hl : a.length = b.length
  · have HA := Lib.hid hA; have HB := Lib.hid hB; have HL := Lib.hid (hfs.trans hl); have HFL := Lib.hid hfs; have HP := Lib.hid hp
    have hne : ((a.length : Int) != (b.length : Int)) = false := by rw [bne_eq_false_iff_eq]; omega
    have hlb : a.length ≤ b.length := by omega
    clear hA hB hl hfs hp
    go_enter Tryd.func35, Tryd.ntmps35
    go_wp2
    go_loopw [7, 17] (fun _ i wr => ∃ k : Nat, k ≤ a.length ∧ i = .int .i64 k ∧ Hid (Below w.heap.size w wr) ∧ Hid ((((fs.zip b).take k).all fun p => p.1 p.2) = true)) (fun _ i _ => a.length - (intOf i).toNat)
    case atStart => exact ⟨0, Nat.zero_le _, rfl, Below.refl _ _, (show Hid _ from by show _ = _; simp)⟩
    case round =>
      obtain ⟨k, hk, rfl, BW, AN⟩ := hrel
      clear hne
      by_cases hlt : k < a.length
      · obtain ⟨x, hx, _⟩ := kid_at hlt
        obtain ⟨y, hy, _⟩ := kid_at (show k < b.length by omega)
        obtain ⟨f, hf⟩ : ∃ f, fs[k]? = some f := ⟨_, List.getElem?_eq_getElem (by have := HFL.out; omega)⟩
        have hra := (HA.out.cells k x hx).keep BW.out
        have hrb := (HB.out.cells k y hy).keep BW.out
        obtain rfl : la = some ⟨bb, off, none⟩ := HA.out.la (by omega)
        obtain rfl : la' = some ⟨bb', off', none⟩ := HB.out.la (by omega)
        have hi1 : (k : Int) < (a.length : Int) := by omega
        have hi2 : (k : Int) < (b.length : Int) := by omega
        have hnx := zall_next (p := fun p : (VT → Bool) × VT => p.1 p.2) (zip_at hf hy)
        have hno := kidsEq_no hf hy
        have hcall := HP.out k x y f hx hy hf
        dsimp only at hnx
        have hxy : ∃ q, f y = q := ⟨_, rfl⟩
        obtain ⟨q, hq⟩ := hxy
        rw [hq] at hno hnx hcall
        have HNX := Lib.hid hnx; have HNO := Lib.hid hno
        clear hnx hno hx hy hf hq
        obtain ⟨o2, l2⟩ := x
        obtain ⟨kd2, g2, x2, b2, s2, la2, lc2, ka2, kc2, ks2⟩ := o2
        obtain ⟨o3, l3⟩ := y
        obtain ⟨kd3, g3, x3, b3, s3, la3, lc3, ka3, kc3, ks3⟩ := o3
        simp only [VT.val, VT.cells, VT.o_mk, VT.kids_mk] at hcall
        obtain ⟨c0, c1, c2, c3, c4, c5, c6, c7, c8, c9⟩ := hra.ten
        obtain ⟨d0, d1, d2, d3, d4, d5, d6, d7, d8, d9⟩ := hrb.ten
        have HCALL := Lib.hid hcall
        clear hra hrb hcall
        have e0 := fun o => alloc_cell d0 o; have e1 := fun o => alloc_cell d1 o; have e2 := fun o => alloc_cell d2 o; have e3 := fun o => alloc_cell d3 o; have e4 := fun o => alloc_cell d4 o
        have e5 := fun o => alloc_cell d5 o; have e6 := fun o => alloc_cell d6 o; have e7 := fun o => alloc_cell d7 o; have e8 := fun o => alloc_cell d8 o; have e9 := fun o => alloc_cell d9 o
        clear d0 d1 d2 d3 d4 d5 d6 d7 d8 d9
        cases q
        all_goals
          first
          | (go_wp2_with (go_at_fn gf; (with_reducible refine (HCALL.out _ (bal (bal BW.out _) _)).mono ?_); rintro e w1 ⟨rfl, hb1⟩)
             go_ret
             exact ⟨ret_bool (by rw [HNO.out (by trivial)]), btr (bal (bal BW.out _) _) hb1⟩)
          | (go_wp2_with (go_at_fn gf; (with_reducible refine (HCALL.out _ (bal (bal BW.out _) _)).mono ?_); rintro e w1 ⟨rfl, hb1⟩)
             go_roundw
             case rel => exact ⟨k + 1, by omega, by go_num, btr (bal (bal BW.out _) _) hb1, (show Hid _ from by show _ = _; rw [HNX.out, AN.out]; rfl)⟩
             case measure => simp [intOf]; omega)
      · have hge : ¬ (k : Int) < (a.length : Int) := by omega
        have HR := Lib.hid (kidsEq_yes HL.out (by have := HFL.out; omega) AN.out)
        go_wp2
        go_ret
        exact ⟨ret_bool HR.out.symm, BW.out⟩
  · rw [kidsEq_len (by omega)]
    have hne : ((a.length : Int) != (b.length : Int)) = true := by rw [bne_iff_ne]; omega
    clear hA hB hl hp
    go_enter Tryd.func35, Tryd.ntmps35
    go_wp2
    go_ret
    exact ⟨rfl, Below.refl _ _⟩
end Go.Proofs.YtgklokjilfeklaaDoor
