/-
  A list of texts: slices.IndexFunc, slices.ContainsFunc at isLong; value.areNames; value.overfull: the contracts.
-/
import Derived.Test.YtebfggiodhaahaaGreatDoorGX
import Derived.Test.YtebfggiodhaahaaGreatDoorGU
namespace Go.Proofs.YtebfggiodhaahaaGreatDoor
open Go.RowKit Go.Shelf

/-- What a walk over a list of texts asks of it. -/
structure KeysL (w : World) (ka : Option Addr) (keys : List ByteArray) (kb koff : Nat) : Prop where
  ka : 0 < keys.length → ka = some ⟨kb, koff, none⟩
  cells : ∀ (i : Nat) (s : ByteArray), keys[i]? = some s → w.cell? ⟨kb, koff + i, none⟩ = some (.string s)
  len : keys.length ≤ 9223372036854775807
  sizes : ∀ s ∈ keys, s.size ≤ 9223372036854775807
theorem KeysL.keep {w w' : World} {ka : Option Addr} {keys : List ByteArray} {kb koff : Nat} (h : KeysL w ka keys kb koff) (hb : Below w.heap.size w w') : KeysL w' ka keys kb koff :=
  ⟨h.ka, fun i s hi => cell_keep hb (h.cells i s hi), h.len, h.sizes⟩
theorem VT.In.keys' {w : World} {o : Own} {l : List VT} (h : (VT.mk o l).In w) : ∃ kb koff, KeysL w o.ka o.keys kb koff := by
  obtain ⟨bb, off, h1, h2⟩ := h.hk
  obtain ⟨_, _, _, _, _, ⟨h3, h4⟩, h5⟩ := h.wf
  unfold maxLen at h4 h5
  exact ⟨bb, off, h1, h2, by simp only [VT.o_mk] at h3 h4; omega, fun s hs => by have := h5 s hs; omega⟩
theorem key_at {keys : List ByteArray} {k : Nat} (h : k < keys.length) : ∃ s, keys[k]? = some s ∧ s ∈ keys := ⟨keys[k], List.getElem?_eq_getElem h, List.getElem_mem h⟩

theorem islong_any (s : ByteArray) (w : World) (hs : s.size ≤ 9223372036854775807) :
    Calls Tryz.prog 46 #[.string s] w fun e w' => e = .returned (.bool (decide (4096 < s.size))) ∧ w = w' := by
  go_enter Tryz.func46, Tryz.ntmps46
  go_wp2
  go_ret
  exact ⟨ret_bool (by rw [Bool.eq_iff_iff]; simp; omega), rfl⟩

theorem kany_take_next {keys : List ByteArray} {k : Nat} {t : ByteArray} {p : ByteArray → Bool} (h : keys[k]? = some t) : (keys.take (k + 1)).any p = ((keys.take k).any p || p t) := by
  rw [take_next h, List.any_append]; simp
theorem kany_of_hit {keys : List ByteArray} {t : ByteArray} {p : ByteArray → Bool} (h : t ∈ keys) (hp : p t = true) : keys.any p = true := List.any_eq_true.2 ⟨t, h, hp⟩

set_option maxHeartbeats 1000000 in
theorem kindex (g : Nat) (eg : ∀ args w, (callFunc g args).run Tryz.prog w = .ok (.enter g args) w) (p : ByteArray → Bool) (ka : Option Addr) (kc : Nat) (keys : List ByteArray) (kb koff : Nat) (w : World) (hK : KeysL w ka keys kb koff)
    (hp : ∀ t ∈ keys, ∀ W, Calls Tryz.prog g #[.string t] W fun e w' => e = .returned (.bool (p t)) ∧ W = w') :
    Calls Tryz.prog 84 #[.slice ka keys.length kc, .func (.func g) #[] #[]] w (IdxIs (keys.any p) w) := by
  have hn := hK.len
  have HK := Lib.hid hK; have HP := Lib.hid hp
  clear hK hp
  go_enter Tryz.func84, Tryz.ntmps84
  go_wp2
  go_loopw [5, 8] (fun _ i wr => ∃ k : Nat, k ≤ keys.length ∧ i = .int .i64 k ∧ Hid (Below w.heap.size w wr) ∧ Hid ((keys.take k).any p = false)) (fun _ i _ => keys.length - (intOf i).toNat)
  case atStart => exact ⟨0, Nat.zero_le _, rfl, Below.refl _ _, (show Hid _ from by show _ = _; simp)⟩
  case round =>
    obtain ⟨k, hk, rfl, BW, AN⟩ := hrel
    by_cases hlt : k < keys.length
    · obtain ⟨t, ht, hm⟩ := key_at hlt
      have hr := cell_keep BW.out (HK.out.cells k t ht)
      obtain rfl : ka = some ⟨kb, koff, none⟩ := HK.out.ka (by omega)
      have hcall := HP.out t hm wr
      have hnx := kany_take_next (p := p) ht
      have hhit := kany_of_hit (p := p) hm
      have hpt : ∃ q, p t = q := ⟨_, rfl⟩
      obtain ⟨q, hq⟩ := hpt
      rw [hq] at hcall hnx hhit
      have HCALL := Lib.hid hcall; have HNX := Lib.hid hnx; have HHT := Lib.hid ht; have HH := Lib.hid hhit; have HQ := Lib.hid hq
      clear hcall hnx ht hhit hq
      cases q with
      | true =>
        go_wp2_with (go_at_fn g; (with_reducible refine HCALL.out.mono ?_); rintro e w1 ⟨rfl, rfl⟩)
        go_ret
        exact IdxIs.mk (by rw [show keys.any p = true from HH.out trivial]; exact decide_eq_true (by omega)) BW.out
      | false =>
        go_wp2_with (go_at_fn g; (with_reducible refine HCALL.out.mono ?_); rintro e w1 ⟨rfl, rfl⟩)
        go_roundw
        case rel => exact ⟨k + 1, by omega, by go_num, BW.out, (show Hid _ from by show _ = _; rw [HNX.out, AN.out]; rfl)⟩
        case measure => simp [intOf]; omega
    · have hge : ¬ (k : Int) < (keys.length : Int) := by omega
      have HF : Hid (keys.any p = false) := by
        have := AN.out
        rw [List.take_of_length_le (by omega)] at this
        exact this
      go_wp2
      go_ret
      exact IdxIs.mk (by rw [HF.out]; rfl) BW.out
theorem kcontains (g : Nat) (eg : ∀ args w, (callFunc g args).run Tryz.prog w = .ok (.enter g args) w) (p : ByteArray → Bool) (ka : Option Addr) (kc : Nat) (keys : List ByteArray) (kb koff : Nat) (w : World) (hK : KeysL w ka keys kb koff)
    (hp : ∀ t ∈ keys, ∀ W, Calls Tryz.prog g #[.string t] W fun e w' => e = .returned (.bool (p t)) ∧ W = w') :
    Calls Tryz.prog 47 #[.slice ka keys.length kc, .func (.func g) #[] #[]] w fun e w' => e = .returned (.bool (keys.any p)) ∧ Below w.heap.size w w' := by
  have H := Lib.hid (kindex g eg p ka kc keys kb koff w hK hp)
  clear hK hp
  go_enter Tryz.func47, Tryz.ntmps47
  go_wp2_with fail
  (with_reducible refine H.out.mono ?_)
  rintro e w1 ⟨n, rfl, hn, hb1⟩
  have HN := Lib.hid hn; have HB := Lib.hid hb1
  clear hn hb1
  go_wp2
  go_ret
  exact ⟨ret_bool HN.out, HB.out⟩
theorem klong (ka : Option Addr) (kc : Nat) (keys : List ByteArray) (kb koff : Nat) (w : World) (hK : KeysL w ka keys kb koff) :
    Calls Tryz.prog 47 #[.slice ka keys.length kc, .func (.func 46) #[] #[]] w fun e w' => e = .returned (.bool (keys.any fun s => decide (4096 < s.size))) ∧ Below w.heap.size w w' :=
  kcontains _ (enters_of Tryz.func46 (by kernel_rfl) rfl) _ ka kc keys kb koff w hK (fun t ht W => islong_any t W (hK.sizes t ht))

/-- Too great, of a value by itself. -/
def overB (o : Own) (n : Nat) : Bool :=
  if o.kind = 5 ∨ o.kind = 6 then decide (4096 < o.text.size)
  else if o.kind = 7 then decide (1000 < n)
  else if o.kind = 8 then decide (1000 < max o.keys.length n) || o.keys.any fun s => decide (4096 < s.size)
  else false
theorem over_text5 (g : Bool) (x0 x1 x2 x3 b : Int) (s : ByteArray) (la : Option Addr) (n lc : Nat) (ka : Option Addr) (m kc : Nat) (hs : s.size ≤ 9223372036854775807) (w : World) :
    Calls Tryz.prog 22 #[V10 5 g x0 x1 x2 x3 b s la n lc ka m kc] w fun e w' => e = .returned (.bool (decide (4096 < s.size))) ∧ Below w.heap.size w w' := by
  go_enter Tryz.func22, Tryz.ntmps22
  go_wp2_with (go_at_call 46; ((with_reducible refine (islong_any _ _ hs).mono ?_); rintro e w1 ⟨rfl, rfl⟩))
  go_ret
  exact ⟨rfl, bal (Below.refl _ _) _⟩
theorem over_text6 (g : Bool) (x0 x1 x2 x3 b : Int) (s : ByteArray) (la : Option Addr) (n lc : Nat) (ka : Option Addr) (m kc : Nat) (hs : s.size ≤ 9223372036854775807) (w : World) :
    Calls Tryz.prog 22 #[V10 6 g x0 x1 x2 x3 b s la n lc ka m kc] w fun e w' => e = .returned (.bool (decide (4096 < s.size))) ∧ Below w.heap.size w w' := by
  go_enter Tryz.func22, Tryz.ntmps22
  go_wp2_with (go_at_call 46; ((with_reducible refine (islong_any _ _ hs).mono ?_); rintro e w1 ⟨rfl, rfl⟩))
  go_ret
  exact ⟨rfl, bal (Below.refl _ _) _⟩
theorem over_array (g : Bool) (x0 x1 x2 x3 b : Int) (s : ByteArray) (la : Option Addr) (n lc : Nat) (ka : Option Addr) (m kc : Nat) (hn : n ≤ 9223372036854775807) (w : World) :
    Calls Tryz.prog 22 #[V10 7 g x0 x1 x2 x3 b s la n lc ka m kc] w fun e w' => e = .returned (.bool (decide (1000 < n))) ∧ Below w.heap.size w w' := by
  go_enter Tryz.func22, Tryz.ntmps22
  go_wp2
  go_ret
  exact ⟨ret_bool (by rw [Bool.eq_iff_iff]; simp; omega), bal (Below.refl _ _) _⟩
theorem over_map_big (g : Bool) (x0 x1 x2 x3 b : Int) (s : ByteArray) (la : Option Addr) (n lc : Nat) (ka : Option Addr) (m kc : Nat) (h : 1000 < max m n) (w : World) :
    Calls Tryz.prog 22 #[V10 8 g x0 x1 x2 x3 b s la n lc ka m kc] w fun e w' => e = .returned (.bool true) ∧ Below w.heap.size w w' := by
  have h1 : (1000 : Int) < max (m : Int) (n : Int) := by omega
  have h2 : decide ((1000 : Int) < max (m : Int) (n : Int)) = true := decide_eq_true h1
  go_enter Tryz.func22, Tryz.ntmps22
  go_wp2
  go_ret
  exact ⟨rfl, bal (Below.refl _ _) _⟩
theorem over_map_few (g : Bool) (x0 x1 x2 x3 b : Int) (s : ByteArray) (la : Option Addr) (n lc : Nat) (ka : Option Addr) (m kc : Nat) (w : World) (h : ¬ 1000 < max m n) (q : Bool) (hq : ∀ W, Below w.heap.size w W → Calls Tryz.prog 47 #[.slice ka m kc, .func (.func 46) #[] #[]] W fun e w' => e = .returned (.bool q) ∧ Below W.heap.size W w') :
    Calls Tryz.prog 22 #[V10 8 g x0 x1 x2 x3 b s la n lc ka m kc] w fun e w' => e = .returned (.bool q) ∧ Below w.heap.size w w' := by
  have h1 : ¬ (1000 : Int) < max (m : Int) (n : Int) := by omega
  have h2 : decide ((1000 : Int) < max (m : Int) (n : Int)) = false := decide_eq_false h1
  have HQ := Lib.hid hq
  clear hq
  go_enter Tryz.func22, Tryz.ntmps22
  go_wp2_with (go_at_call 47; ((with_reducible refine (HQ.out _ (bal (Below.refl _ _) _)).mono ?_); rintro e w1 ⟨rfl, hb1⟩))
  go_ret
  exact ⟨rfl, btr (bal (Below.refl _ _) _) hb1⟩
theorem over_none (g : Bool) (x0 x1 x2 x3 b : Int) (s : ByteArray) (la : Option Addr) (n lc : Nat) (ka : Option Addr) (m kc : Nat) (kd : Int) (h5 : (kd == 5) = false) (h6 : (kd == 6) = false) (h7 : (kd == 7) = false) (h8 : (kd == 8) = false) (w : World) :
    Calls Tryz.prog 22 #[V10 kd g x0 x1 x2 x3 b s la n lc ka m kc] w fun e w' => e = .returned (.bool false) ∧ Below w.heap.size w w' := by
  go_enter Tryz.func22, Tryz.ntmps22
  go_wp2
  go_ret
  exact ⟨rfl, bal (Below.refl _ _) _⟩
/-- value.overfull. -/
theorem over_any (T : VT) (w : World) (hI : T.In w) : Calls Tryz.prog 22 #[T.val] w fun e w' => e = .returned (.bool (overB T.o T.kids.length)) ∧ Below w.heap.size w w' := by
  obtain ⟨o, kids⟩ := T
  obtain ⟨kb, koff, hK⟩ := hI.keys'
  obtain ⟨bb, off, hL⟩ := hI.kids'
  have hs : o.text.size ≤ 9223372036854775807 := by obtain ⟨_, _, _, h, _⟩ := hI.wf; unfold maxLen at h; simp only [VT.o_mk] at h; omega
  have hn := hL.len
  have hm := hK.len
  obtain ⟨kd, g, x, b, s, la, lc, ka, kc, ks⟩ := o
  simp only [VT.o_mk, VT.kids_mk] at hs hn hm hK hL ⊢
  by_cases h5 : kd = 5
  · subst h5
    rw [show overB ⟨5, g, x, b, s, la, lc, ka, kc, ks⟩ kids.length = decide (4096 < s.size) from rfl]
    exact over_text5 g _ _ _ _ b s la _ lc ka _ kc hs w
  by_cases h6 : kd = 6
  · subst h6
    rw [show overB ⟨6, g, x, b, s, la, lc, ka, kc, ks⟩ kids.length = decide (4096 < s.size) from rfl]
    exact over_text6 g _ _ _ _ b s la _ lc ka _ kc hs w
  by_cases h7 : kd = 7
  · subst h7
    rw [show overB ⟨7, g, x, b, s, la, lc, ka, kc, ks⟩ kids.length = decide (1000 < kids.length) from rfl]
    exact over_array g _ _ _ _ b s la _ lc ka _ kc hn w
  by_cases h8 : kd = 8
  · subst h8
    rw [show overB ⟨8, g, x, b, s, la, lc, ka, kc, ks⟩ kids.length = (decide (1000 < max ks.length kids.length) || ks.any fun s => decide (4096 < s.size)) from rfl]
    by_cases hx : 1000 < max ks.length kids.length
    · rw [decide_eq_true hx]
      exact over_map_big g _ _ _ _ b s la _ lc ka _ kc hx w
    · rw [decide_eq_false hx, Bool.false_or]
      exact over_map_few g _ _ _ _ b s la _ lc ka _ kc w hx _ (fun W hb => klong ka kc ks kb koff W (hK.keep hb))
  rw [show overB ⟨kd, g, x, b, s, la, lc, ka, kc, ks⟩ kids.length = false from by simp [overB, h5, h6, h7, h8]]
  exact over_none g _ _ _ _ b s la _ lc ka _ kc kd (beq_eq_false_iff_ne.2 h5) (beq_eq_false_iff_ne.2 h6) (beq_eq_false_iff_ne.2 h7) (beq_eq_false_iff_ne.2 h8) w
end Go.Proofs.YtebfggiodhaahaaGreatDoor
