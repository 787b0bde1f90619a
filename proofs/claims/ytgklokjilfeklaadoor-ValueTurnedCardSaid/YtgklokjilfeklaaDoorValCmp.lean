/-
  cmp.Compare, slices.Compare, slices.CompareFunc: the contracts.
-/
import Derived.Test.YtgklokjilfeklaaDoorValSame
import Derived.Test.YtgklokjilfeklaaDoorShelf
namespace Go.Proofs.YtgklokjilfeklaaDoor
open Go.RowKit Go.Shelf

theorem nan_u (x : Int) (w : World) : Calls Tryd.prog 50 #[.int .u64 x] w fun e w' => e = .returned (.bool false) ∧ w = w' := by
  go_enter Tryd.func50, Tryd.ntmps50
  go_wp2
  go_ret
  exact ⟨by simp, rfl⟩
theorem nan_s (x : ByteArray) (w : World) : Calls Tryd.prog 53 #[.string x] w fun e w' => e = .returned (.bool false) ∧ w = w' := by
  go_enter Tryd.func53, Tryd.ntmps53
  go_wp2
  go_ret
  exact ⟨by simp, rfl⟩
theorem cmp_u (x y : Int) (w : World) : Calls Tryd.prog 28 #[.int .u64 x, .int .u64 y] w fun e w' => e = .returned (.int .i64 (Lib.compareInt x y)) ∧ w = w' := by
  by_cases h1 : x < y
  · have e : Lib.compareInt x y = -1 := by unfold Lib.compareInt; rw [if_pos h1]
    rw [e]
    go_enter Tryd.func28, Tryd.ntmps28
    go_wp2_with (go_at_call 50; ((with_reducible refine (nan_u _ _).mono ?_); rintro e w1 ⟨rfl, rfl⟩))
    go_ret
    exact ⟨rfl, rfl⟩
  · by_cases h2 : y < x
    · have e : Lib.compareInt x y = 1 := by unfold Lib.compareInt; rw [if_neg h1, if_pos h2]
      rw [e]
      go_enter Tryd.func28, Tryd.ntmps28
      go_wp2_with (go_at_call 50; ((with_reducible refine (nan_u _ _).mono ?_); rintro e w1 ⟨rfl, rfl⟩))
      go_ret
      exact ⟨rfl, rfl⟩
    · have e : Lib.compareInt x y = 0 := by unfold Lib.compareInt; rw [if_neg h1, if_neg h2]
      rw [e]
      go_enter Tryd.func28, Tryd.ntmps28
      go_wp2_with (go_at_call 50; ((with_reducible refine (nan_u _ _).mono ?_); rintro e w1 ⟨rfl, rfl⟩))
      go_ret
      exact ⟨rfl, rfl⟩
/-- Texts, by bytes. -/
def cmpS (a b : ByteArray) : Int := if Op.bytesLess a.toList b.toList then -1 else if a.toList == b.toList then 0 else 1
theorem cmp_s (x y : ByteArray) (w : World) : Calls Tryd.prog 30 #[.string x, .string y] w fun e w' => e = .returned (.int .i64 (cmpS x y)) ∧ w = w' := by
  unfold cmpS
  cases h1 : Op.bytesLess x.toList y.toList with
  | true =>
    rw [if_pos rfl]
    go_enter Tryd.func30, Tryd.ntmps30
    go_wp2_with (go_at_call 53; ((with_reducible refine (nan_s _ _).mono ?_); rintro e w1 ⟨rfl, rfl⟩))
    go_ret
    exact ⟨rfl, rfl⟩
  | false =>
    rw [if_neg (by simp)]
    cases h2 : (x.toList == y.toList) with
    | true =>
      rw [if_pos rfl]
      go_enter Tryd.func30, Tryd.ntmps30
      go_wp2_with (go_at_call 53; ((with_reducible refine (nan_s _ _).mono ?_); rintro e w1 ⟨rfl, rfl⟩))
      go_ret
      exact ⟨rfl, rfl⟩
    | false =>
      rw [if_neg (by simp)]
      go_enter Tryd.func30, Tryd.ntmps30
      go_wp2_with (go_at_call 53; ((with_reducible refine (nan_s _ _).mono ?_); rintro e w1 ⟨rfl, rfl⟩))
      go_ret
      exact ⟨rfl, rfl⟩

/-- The first that is not 0. -/
def firstNZ : List Int → Int
  | [] => 0
  | c :: l => if c = 0 then firstNZ l else c
theorem firstNZ_zero {l : List Int} (h : ∀ c ∈ l, c = 0) : firstNZ l = 0 := by
  induction l with
  | nil => rfl
  | cons c l ih => rw [firstNZ, if_pos (h c (by simp))]; exact ih fun d hd => h d (by simp [hd])
theorem firstNZ_hit {l : List Int} : ∀ {k : Nat} {c : Int}, l[k]? = some c → c ≠ 0 → (∀ d ∈ l.take k, d = 0) → firstNZ l = c := by
  induction l with
  | nil => intro k c h; simp at h
  | cons d l ih =>
    intro k c h hc hz
    cases k with
    | zero =>
      simp at h
      subst h
      rw [firstNZ, if_neg hc]
    | succ k =>
      rw [firstNZ, if_pos (hz d (by simp))]
      exact ih (by simpa using h) hc fun e he => hz e (by simp [he])
def cmpKs (a b : List ByteArray) : Int := firstNZ ((a.zip b).map fun p => cmpS p.1 p.2)
def cmpF (fs : List (VT → Int)) (us : List VT) : Int := if firstNZ ((fs.zip us).map fun p => p.1 p.2) = 0 then Lib.compareInt (fs.length : Int) (us.length : Int) else firstNZ ((fs.zip us).map fun p => p.1 p.2)
theorem zero_next {α : Type} {l : List α} {f : α → Int} {k : Nat} {x : α} (hx : l[k]? = some x) (h : ∀ c ∈ (l.take k).map f, c = 0) (h0 : f x = 0) : ∀ c ∈ (l.take (k + 1)).map f, c = 0 := by
  intro c hc
  rw [take_next hx, List.map_append] at hc
  rcases List.mem_append.1 hc with hc | hc
  · exact h c hc
  · simp at hc; rw [hc, h0]
theorem hit_at {α : Type} {l : List α} {f : α → Int} {k : Nat} {x : α} (hx : l[k]? = some x) (h : ∀ c ∈ (l.take k).map f, c = 0) (h0 : f x ≠ 0) : firstNZ (l.map f) = f x := by
  refine firstNZ_hit (k := k) (by rw [List.getElem?_map, hx]; rfl) h0 ?_
  rw [← List.map_take]; exact h
theorem all_zero {α : Type} {l : List α} {f : α → Int} {k : Nat} (hk : l.length ≤ k) (h : ∀ c ∈ (l.take k).map f, c = 0) : firstNZ (l.map f) = 0 := by
  rw [List.take_of_length_le hk] at h
  exact firstNZ_zero h

set_option maxHeartbeats 2000000 in
theorem kcompare (ka : Option Addr) (kc : Nat) (a : List ByteArray) (kb koff : Nat) (ka' : Option Addr) (kc' : Nat) (b : List ByteArray) (kb' koff' : Nat) (w : World) (hA : KeysL w ka a kb koff) (hB : KeysL w ka' b kb' koff') (hl : a.length = b.length) :
    Calls Tryd.prog 54 #[.slice ka a.length kc, .slice ka' b.length kc'] w fun e w' => e = .returned (.int .i64 (cmpKs a b)) ∧ Below w.heap.size w w' := by
  have hna := hA.len
  have hnb := hB.len
  have HA := Lib.hid hA; have HB := Lib.hid hB; have HL := Lib.hid hl
  have hlb : a.length ≤ b.length := by omega
  have hlc : ¬ (a.length : Int) < (b.length : Int) := by omega
  clear hA hB hl
  go_enter Tryd.func54, Tryd.ntmps54
  go_wp2
  go_loopw [5, 6, 7, 8, 11] (fun _ _ _ _ i wr => ∃ k : Nat, k ≤ a.length ∧ i = .int .i64 k ∧ Hid (Below w.heap.size w wr) ∧ Hid (∀ c ∈ ((a.zip b).take k).map (fun p => cmpS p.1 p.2), c = 0)) (fun _ _ _ _ i _ => a.length - (intOf i).toNat)
  case atStart => exact ⟨0, Nat.zero_le _, rfl, Below.refl _ _, (show Hid _ from fun c hc => by simp at hc)⟩
  case round =>
    obtain ⟨k, hk, rfl, BW, AN⟩ := hrel
    by_cases hlt : k < a.length
    · obtain ⟨x, hx, _⟩ := key_at hlt
      obtain ⟨y, hy, _⟩ := key_at (show k < b.length by omega)
      have hra := cell_keep BW.out (HA.out.cells k x hx)
      have hrb := cell_keep BW.out (HB.out.cells k y hy)
      obtain rfl : ka = some ⟨kb, koff, none⟩ := HA.out.ka (by omega)
      obtain rfl : ka' = some ⟨kb', koff', none⟩ := HB.out.ka (by omega)
      have hi2 : ¬ (b.length : Int) ≤ (k : Int) := by omega
      have hi3 : (k : Int) < (b.length : Int) := by omega
      by_cases h0 : cmpS x y = 0
      · have HN := Lib.hid (zero_next (f := fun p : ByteArray × ByteArray => cmpS p.1 p.2) (zip_at hx hy) AN.out h0)
        have hcall := fun W => cmp_s x y W
        rw [h0] at hcall
        clear hx hy h0
        go_wp2_with (go_at_call 30; ((with_reducible refine (hcall _).mono ?_); rintro e w1 ⟨rfl, rfl⟩))
        go_roundw
        case rel => exact ⟨k + 1, by omega, by go_num, BW.out, HN⟩
        case measure => simp [intOf]; omega
      · have HN := Lib.hid (hit_at (f := fun p : ByteArray × ByteArray => cmpS p.1 p.2) (zip_at hx hy) AN.out h0)
        have hcall := fun W => cmp_s x y W
        have hb0 : (cmpS x y != 0) = true := bne_iff_ne.2 h0
        generalize cmpS x y = C at *
        clear hx hy h0
        go_wp2_with (go_at_call 30; ((with_reducible refine (hcall _).mono ?_); rintro e w1 ⟨rfl, rfl⟩))
        go_ret
        exact ⟨ret_int HN.out.symm, BW.out⟩
    · have hge : ¬ (k : Int) < (a.length : Int) := by omega
      have HN := Lib.hid (all_zero (l := a.zip b) (by rw [List.length_zip]; omega) AN.out)
      go_wp2
      go_ret
      exact ⟨ret_int HN.out.symm, BW.out⟩

theorem cmpF_hit {fs : List (VT → Int)} {us : List VT} {k : Nat} {f : VT → Int} {u : VT} (hf : fs[k]? = some f) (hu : us[k]? = some u) (h : ∀ c ∈ ((fs.zip us).take k).map (fun p => p.1 p.2), c = 0) (h0 : f u ≠ 0) : cmpF fs us = f u := by
  have := hit_at (f := fun p : (VT → Int) × VT => p.1 p.2) (zip_at hf hu) h h0
  unfold cmpF
  rw [this, if_neg h0]
theorem cmpF_end {fs : List (VT → Int)} {us : List VT} {k : Nat} (hk : fs.length ≤ k ∨ us.length ≤ k) (h : ∀ c ∈ ((fs.zip us).take k).map (fun p => p.1 p.2), c = 0) : cmpF fs us = Lib.compareInt (fs.length : Int) (us.length : Int) := by
  have := all_zero (l := fs.zip us) (by rw [List.length_zip]; omega) h
  unfold cmpF
  rw [this, if_pos rfl]

set_option maxRecDepth 100000 in
set_option maxHeartbeats 4000000 in
theorem vcompare (gf : Nat) (eg : ∀ args w, (callFunc gf args).run Tryd.prog w = .ok (.enter gf args) w) (la : Option Addr) (lc : Nat) (a : List VT) (bb off : Nat) (la' : Option Addr) (lc' : Nat) (b : List VT) (bb' off' : Nat) (fs : List (VT → Int)) (w : World) (hA : Kids w la a bb off) (hB : Kids w la' b bb' off') (hfs : fs.length = a.length)
    (hp : ∀ (k : Nat) (t u : VT) (f : VT → Int), a[k]? = some t → b[k]? = some u → fs[k]? = some f → ∀ W, Below w.heap.size w W → Calls Tryd.prog gf #[t.val, u.val] W fun e w' => e = .returned (.int .i64 (f u)) ∧ Below W.heap.size W w') :
    Calls Tryd.prog 31 #[.slice la a.length lc, .slice la' b.length lc', .func (.func gf) #[] #[]] w fun e w' => e = .returned (.int .i64 (cmpF fs b)) ∧ Below w.heap.size w w' := by
  have hna := hA.len
  have hnb := hB.len
  have HA := Lib.hid hA; have HB := Lib.hid hB; have HFL := Lib.hid hfs; have HP := Lib.hid hp
  clear hA hB hfs hp
  go_enter Tryd.func31, Tryd.ntmps31
  go_wp2
  go_loopw [7, 10, 13] (fun _ _ i wr => ∃ k : Nat, k ≤ a.length ∧ k ≤ b.length ∧ i = .int .i64 k ∧ Hid (Below w.heap.size w wr) ∧ Hid (∀ c ∈ ((fs.zip b).take k).map (fun p => p.1 p.2), c = 0)) (fun _ _ i _ => a.length - (intOf i).toNat)
  case atStart => exact ⟨0, Nat.zero_le _, Nat.zero_le _, rfl, Below.refl _ _, (show Hid _ from fun c hc => by simp at hc)⟩
  case round =>
    obtain ⟨k, hk, hkb, rfl, BW, AN⟩ := hrel
    by_cases hlt : k < a.length
    · obtain ⟨x, hx, _⟩ := kid_at hlt
      have hra := (HA.out.cells k x hx).keep BW.out
      obtain rfl : la = some ⟨bb, off, none⟩ := HA.out.la (by omega)
      have hi1 : (k : Int) < (a.length : Int) := by omega
      by_cases hlb : k < b.length
      · obtain ⟨y, hy, _⟩ := kid_at hlb
        obtain ⟨f, hf⟩ : ∃ f, fs[k]? = some f := ⟨_, List.getElem?_eq_getElem (by have := HFL.out; omega)⟩
        have hrb := (HB.out.cells k y hy).keep BW.out
        obtain rfl : la' = some ⟨bb', off', none⟩ := HB.out.la (by omega)
        have hi2 : ¬ (b.length : Int) ≤ (k : Int) := by omega
        have hi3 : (k : Int) < (b.length : Int) := by omega
        have hcall := HP.out k x y f hx hy hf
        have hz := fun h0 => zero_next (f := fun p : (VT → Int) × VT => p.1 p.2) (zip_at hf hy) AN.out h0
        have hh := fun h0 => cmpF_hit hf hy AN.out h0
        dsimp only at hz
        generalize f y = C at *
        have HZ := Lib.hid hz; have HH := Lib.hid hh
        clear hx hy hf hz hh
        obtain ⟨o2, l2⟩ := x
        obtain ⟨kd2, g2, x2, b2, s2, la2, lc2, ka2, kc2, ks2⟩ := o2
        obtain ⟨o3, l3⟩ := y
        obtain ⟨kd3, g3, x3, b3, s3, la3, lc3, ka3, kc3, ks3⟩ := o3
        simp only [VT.val, VT.cells, VT.o_mk, VT.kids_mk] at hcall
        obtain ⟨c0, c1, c2, c3, c4, c5, c6, c7, c8, c9⟩ := hra.ten
        obtain ⟨d0, d1, d2, d3, d4, d5, d6, d7, d8, d9⟩ := hrb.ten
        have HCALL := Lib.hid hcall
        clear hra hrb hcall
        have e0 := fun o => alloc_cell d0 o; have e1 := fun o => alloc_cell d1 o; have e2 := fun o => alloc_cell d2 o; have e3 := fun o => alloc_cell d3 o; have e4 := fun o => alloc_cell d4 o
        have e5 := fun o => alloc_cell d5 o; have e6 := fun o => alloc_cell d6 o; have e7 := fun o => alloc_cell d7 o; have e8 := fun o => alloc_cell d8 o; have e9 := fun o => alloc_cell d9 o
        clear d0 d1 d2 d3 d4 d5 d6 d7 d8 d9
        by_cases h0 : C = 0
        · subst h0
          have HN := Lib.hid (HZ.out rfl)
          go_wp2_with (go_at_fn gf; (with_reducible refine (HCALL.out _ (bal (bal BW.out _) _)).mono ?_); rintro e w1 ⟨rfl, hb1⟩)
          go_roundw
          case rel => exact ⟨k + 1, by omega, by omega, by go_num, btr (bal (bal BW.out _) _) hb1, HN.out⟩
          case measure => simp [intOf]; omega
        · have HN := Lib.hid (HH.out h0)
          have hb0 : (C != 0) = true := bne_iff_ne.2 h0
          clear h0
          go_wp2_with (go_at_fn gf; (with_reducible refine (HCALL.out _ (bal (bal BW.out _) _)).mono ?_); rintro e w1 ⟨rfl, hb1⟩)
          go_ret
          exact ⟨ret_int HN.out.symm, btr (bal (bal BW.out _) _) hb1⟩
      · have hi2 : (b.length : Int) ≤ (k : Int) := by omega
        have HN : Hid (cmpF fs b = 1) := by
          show _ = _
          rw [cmpF_end (.inr (by omega)) AN.out]
          have := HFL.out
          unfold Lib.compareInt
          rw [if_neg (by omega), if_pos (by omega)]
        obtain ⟨o2, l2⟩ := x
        obtain ⟨kd2, g2, x2, b2, s2, la2, lc2, ka2, kc2, ks2⟩ := o2
        obtain ⟨c0, c1, c2, c3, c4, c5, c6, c7, c8, c9⟩ := hra.ten
        clear hra hx
        go_wp2
        go_ret
        exact ⟨ret_int HN.out.symm, bal BW.out _⟩
    · have hge : ¬ (k : Int) < (a.length : Int) := by omega
      have HE := Lib.hid (cmpF_end (.inl (by have := HFL.out; omega)) AN.out)
      by_cases hab : a.length < b.length
      · have hab2 : (a.length : Int) < (b.length : Int) := by omega
        have HN : Hid (cmpF fs b = -1) := by
          show _ = _
          rw [HE.out]
          have := HFL.out
          unfold Lib.compareInt
          rw [if_pos (by omega)]
        go_wp2
        go_ret
        exact ⟨ret_int HN.out.symm, BW.out⟩
      · have hab2 : ¬ (a.length : Int) < (b.length : Int) := by omega
        have HN : Hid (cmpF fs b = 0) := by
          show _ = _
          rw [HE.out]
          have := HFL.out
          unfold Lib.compareInt
          rw [if_neg (by omega), if_neg (by omega)]
        go_wp2
        go_ret
        exact ⟨ret_int HN.out.symm, BW.out⟩
end Go.Proofs.YtgklokjilfeklaaDoor
