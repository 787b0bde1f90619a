/-
  ValSpec ValDepth ValIndex, one behind the other: a claim holds at most 60 files.
-/
import Derived.Test.YtebfggiodhaahaaGreatDoorGV
import Derived.Deep.LoopGhost
section
namespace Go.Proofs.YtebfggiodhaahaaGreatDoor
open Go.RowKit

/-- Too many, too long, of a value by itself. -/
def fewB (o : Own) (n : Nat) : Bool := decide (300 < o.text.size) || decide (400 < o.keys.length) || decide (400 < n) || o.keys.any fun s => decide (300 < s.size)
/-- How many parts, as far as it is few. -/
def fewStep (f : VT → Nat) (n : Nat) (t : VT) : Nat := if n < 1000 then n + f t else n
def fewT : Nat → VT → Nat
  | 0, _ => 1000
  | d + 1, T => if fewB T.o T.kids.length then 1000 else T.kids.foldl (fewStep (fewT d)) 1
theorem fewT_zero (T : VT) : fewT 0 T = 1000 := rfl
theorem fewT_bad {d : Nat} {T : VT} (h : fewB T.o T.kids.length = true) : fewT (d + 1) T = 1000 := by rw [fewT, if_pos h]
theorem fewT_good {d : Nat} {T : VT} (h : fewB T.o T.kids.length = false) : fewT (d + 1) T = T.kids.foldl (fewStep (fewT d)) 1 := by rw [fewT, if_neg (by rw [h]; simp)]
theorem fewStep_ge (f : VT → Nat) (n : Nat) (t : VT) : n ≤ fewStep f n t := by unfold fewStep; split <;> omega
theorem fold_ge (f : VT → Nat) (l : List VT) : ∀ n, n ≤ l.foldl (fewStep f) n := by
  induction l with
  | nil => intro n; exact Nat.le_refl _
  | cons t l ih => intro n; exact Nat.le_trans (fewStep_ge f n t) (ih _)
theorem fold_few (f : VT → Nat) (l : List VT) : ∀ n, l.foldl (fewStep f) n ≤ 400 → l.foldl (fewStep f) n = n + (l.map f).sum ∧ ∀ t ∈ l, f t ≤ 400 := by
  induction l with
  | nil => intro n _; exact ⟨by simp, fun t h => by cases h⟩
  | cons t l ih =>
    intro n h
    have h1 := fold_ge f l (fewStep f n t)
    have h2 := fewStep_ge f n t
    have e : fewStep f n t = n + f t := by unfold fewStep; rw [if_pos (by simp only [List.foldl_cons] at h; omega)]
    obtain ⟨h3, h4⟩ := ih _ h
    refine ⟨?_, fun u hu => ?_⟩
    · simp only [List.foldl_cons, List.map_cons, List.sum_cons]; rw [h3, e]; omega
    · rcases List.mem_cons.1 hu with rfl | hu
      · simp only [List.foldl_cons] at h; omega
      · exact h4 u hu
theorem fold_cap (f : VT → Nat) (c : Nat) (l : List VT) (hf : ∀ t ∈ l, f t ≤ c) : ∀ n, n ≤ 999 + c → l.foldl (fewStep f) n ≤ 999 + c := by
  induction l with
  | nil => intro n h; exact h
  | cons t l ih =>
    intro n h
    have := hf t (by simp)
    exact ih (fun u hu => hf u (by simp [hu])) _ (by unfold fewStep; split <;> omega)
theorem fewT_cap : ∀ (d : Nat) (T : VT), fewT d T ≤ 1000 + 1000 * d
  | 0, T => by rw [fewT_zero]; omega
  | d + 1, T => by
    cases h : fewB T.o T.kids.length with
    | true => rw [fewT_bad h]; omega
    | false =>
      rw [fewT_good h]
      have := fold_cap (fewT d) (1000 + 1000 * d) T.kids (fun t _ => fewT_cap d t) 1 (by omega)
      omega
/-- What is few is small in all its parts. -/
theorem fewT_few : ∀ (d : Nat) (T : VT), fewT d T ≤ 400 → T.nodes = fewT d T ∧ T.depth ≤ d ∧ fewB T.o T.kids.length = false ∧ ∀ t ∈ T.kids, fewT (d - 1) t ≤ 400
  | 0, T, h => by rw [fewT_zero] at h; omega
  | d + 1, T, h => by
    cases hb : fewB T.o T.kids.length with
    | true => rw [fewT_bad hb] at h; omega
    | false =>
      rw [fewT_good hb] at h ⊢
      obtain ⟨h1, h2⟩ := fold_few _ _ _ h
      rw [h1]
      refine ⟨?_, ?_, rfl, h2⟩
      · cases T with
        | mk o kids =>
          rw [VT.nodes_mk]
          have : kids.map VT.nodes = kids.map (fewT d) := List.map_congr_left fun t ht => (fewT_few d t (h2 t ht)).1
          rw [this]; rfl
      · cases T with
        | mk o kids =>
          rw [VT.depth_mk]
          have : (kids.map VT.depth).foldl max 0 ≤ d := foldl_max_le (Nat.zero_le _) fun x hx => by
            obtain ⟨t, ht, rfl⟩ := List.mem_map.1 hx
            exact (fewT_few d t (h2 t ht)).2.1
          omega
/-- few, so far in the list. -/
def fTo (d : Nat) (kids : List VT) (k : Nat) : Nat := (kids.take k).foldl (fewStep (fewT d)) 1
theorem fTo_zero (d : Nat) (kids : List VT) : fTo d kids 0 = 1 := by simp [fTo]
theorem fTo_next {d : Nat} {kids : List VT} {k : Nat} {t : VT} (h : kids[k]? = some t) (hn : fTo d kids k < 1000) : fTo d kids (k + 1) = fTo d kids k + fewT d t := by
  unfold fTo at *; rw [take_next h, List.foldl_append]; simp only [List.foldl_cons, List.foldl_nil]
  rw [fewStep, if_pos hn]
theorem fTo_all {d : Nat} {kids : List VT} : fTo d kids kids.length = kids.foldl (fewStep (fewT d)) 1 := by unfold fTo; rw [List.take_length]
theorem fTo_stop {d : Nat} {kids : List VT} {k : Nat} (h : 1000 ≤ fTo d kids k) : kids.foldl (fewStep (fewT d)) 1 = fTo d kids k := by
  have stay : ∀ (l : List VT) (n : Nat), 1000 ≤ n → l.foldl (fewStep (fewT d)) n = n := by
    intro l
    induction l with
    | nil => intro n _; rfl
    | cons t l ih => intro n hn; simp only [List.foldl_cons]; rw [fewStep, if_neg (by omega)]; exact ih n hn
  unfold fTo at *
  conv => lhs; rw [← List.take_append_drop k kids]
  rw [List.foldl_append, stay _ _ h]
theorem fTo_cap (d : Nat) (kids : List VT) (k : Nat) : fTo d kids k ≤ 1999 + 1000 * d := by
  have := fold_cap (fewT d) (1000 + 1000 * d) (kids.take k) (fun t _ => fewT_cap d t) 1 (by omega)
  unfold fTo; omega

/-- deeper: is the depth above a number? -/
def deepT : Nat → VT → Bool
  | 0, _ => true
  | n + 1, T => T.kids.any (deepT n)
theorem foldl_max_lt_iff (l : List Nat) : ∀ (a n : Nat), n < l.foldl max a ↔ n < a ∨ ∃ x ∈ l, n < x := by
  induction l with
  | nil => intro a n; simp
  | cons b l ih =>
    intro a n
    simp only [List.foldl_cons, ih, List.mem_cons]
    constructor
    · rintro (h | ⟨x, hx, h⟩)
      · rcases Nat.lt_or_ge n a with h1 | h1
        · exact .inl h1
        · exact .inr ⟨b, .inl rfl, by omega⟩
      · exact .inr ⟨x, .inr hx, h⟩
    · rintro (h | ⟨x, rfl | hx, h⟩)
      · exact .inl (by omega)
      · exact .inl (by omega)
      · exact .inr ⟨x, hx, h⟩
theorem deepT_iff : ∀ (n : Nat) (T : VT), deepT n T = decide (n < T.depth)
  | 0, T => by
    cases T with
    | mk o kids => rw [deepT, VT.depth_mk]; simp; omega
  | n + 1, T => by
    cases T with
    | mk o kids =>
      rw [deepT, VT.depth_mk, Bool.eq_iff_iff, List.any_eq_true, decide_eq_true_iff]
      have : n + 1 < 1 + (kids.map VT.depth).foldl max 0 ↔ n < (kids.map VT.depth).foldl max 0 := by omega
      rw [this, foldl_max_lt_iff]
      constructor
      · rintro ⟨t, ht, h⟩
        rw [deepT_iff n t, decide_eq_true_iff] at h
        exact .inr ⟨t.depth, List.mem_map.2 ⟨t, ht, rfl⟩, h⟩
      · rintro (h | ⟨x, hx, h⟩)
        · omega
        · obtain ⟨t, ht, rfl⟩ := List.mem_map.1 hx
          exact ⟨t, ht, by rw [deepT_iff n t]; simpa using h⟩

/-- has: is a value, or something in it, such? -/
def hasT (p : VT → Bool) : VT → Bool
  | .mk o kids => p (.mk o kids) || (kids.map fun k => hasT p k).any id
theorem hasT_mk (p : VT → Bool) (T : VT) : hasT p T = (p T || T.kids.any (hasT p)) := by
  cases T with
  | mk o kids => rw [hasT, List.any_map]; rfl
theorem hasT_false {p : VT → Bool} {T : VT} (h : hasT p T = false) : p T = false ∧ ∀ t ∈ T.kids, hasT p t = false := by
  rw [hasT_mk, Bool.or_eq_false_iff, List.any_eq_false] at h
  exact ⟨h.1, fun t ht => by simpa using h.2 t ht⟩
end Go.Proofs.YtebfggiodhaahaaGreatDoor
end
section
namespace Go.Proofs.YtebfggiodhaahaaGreatDoor
open Go.RowKit Go.Shelf

theorem ret_int {k : IntKind} {a b : Int} (h : a = b) : Ending.returned (.int k a) = .returned (.int k b) := by rw [h]
theorem kid_at {kids : List VT} {k : Nat} (h : k < kids.length) : ∃ t, kids[k]? = some t ∧ t ∈ kids := ⟨kids[k], List.getElem?_eq_getElem h, List.getElem_mem h⟩


/-- What a walk over a value's list asks of the list. -/
structure Kids (w : World) (la : Option Addr) (kids : List VT) (bb off : Nat) : Prop where
  la : 0 < kids.length → la = some ⟨bb, off, none⟩
  cells : ∀ (i : Nat) (t : VT), kids[i]? = some t → Cells10 w bb (off + i * 10) t
  ins : ∀ (i : Nat) (t : VT), kids[i]? = some t → t.In w
  len : kids.length ≤ 9223372036854775807
theorem Kids.keep {w w' : World} {la : Option Addr} {kids : List VT} {bb off : Nat} (h : Kids w la kids bb off) (hb : Below w.heap.size w w') : Kids w' la kids bb off :=
  ⟨h.la, fun i t hi => (h.cells i t hi).keep hb, fun i t hi => (h.ins i t hi).keep hb, h.len⟩
theorem VT.In.kids' {w : World} {o : Own} {l : List VT} (h : (VT.mk o l).In w) : ∃ bb off, Kids w o.la l bb off := by
  obtain ⟨bb, off, h1, h2⟩ := h.hl
  obtain ⟨_, _, _, _, ⟨h3, h4⟩, _, _⟩ := h.wf
  unfold maxLen at h4
  exact ⟨bb, off, h1, h2, fun i t hi => h.kid (T := VT.mk o l) hi, by simp only [VT.o_mk, VT.kids_mk] at h3 h4; omega⟩

end Go.Proofs.YtebfggiodhaahaaGreatDoor
end
section
namespace Go.Proofs.YtebfggiodhaahaaGreatDoor
open Go.RowKit Go.Shelf

/-- An index, or -1: is there one? -/
def IdxIs (b : Bool) (w : World) (e : Ending) (w' : World) : Prop := ∃ n : Int, e = .returned (.int .i64 n) ∧ decide (0 ≤ n) = b ∧ Below w.heap.size w w'
theorem IdxIs.mk {b : Bool} {w w' : World} {n : Int} (h : decide (0 ≤ n) = b) (hb : Below w.heap.size w w') : IdxIs b w (.returned (.int .i64 n)) w' := ⟨n, rfl, h, hb⟩

theorem ret_bool {a b : Bool} (h : a = b) : Ending.returned (.bool a) = .returned (.bool b) := by rw [h]
theorem any_take_next {kids : List VT} {k : Nat} {t : VT} {p : VT → Bool} (h : kids[k]? = some t) : (kids.take (k + 1)).any p = ((kids.take k).any p || p t) := by
  rw [take_next h, List.any_append]; simp
theorem any_of_hit {kids : List VT} {t : VT} {p : VT → Bool} (h : t ∈ kids) (hp : p t = true) : kids.any p = true := List.any_eq_true.2 ⟨t, h, hp⟩

set_option maxHeartbeats 1000000 in
theorem vindex (g : Nat) (lb : Array Value) (eg : ∀ args w, (callFunc g args).run Tryz.prog w = .ok (.enter g args) w) (p : VT → Bool) (la : Option Addr) (lc : Nat) (kids : List VT) (bb off : Nat) (w : World) (hK : Kids w la kids bb off)
    (hp : ∀ t ∈ kids, ∀ W, Below w.heap.size w W → Calls Tryz.prog g (#[t.val] ++ lb) W fun e w' => e = .returned (.bool (p t)) ∧ Below W.heap.size W w') :
    Calls Tryz.prog 83 #[.slice la kids.length lc, .func (.func g) #[] lb] w (IdxIs (kids.any p) w) := by
  have hn := hK.len
  have HK := Lib.hid hK; have HP := Lib.hid hp
  clear hK hp
  go_enter Tryz.func83, Tryz.ntmps83
  go_wp2
  go_loopw [5, 8] (fun _ i wr => ∃ k : Nat, k ≤ kids.length ∧ i = .int .i64 k ∧ Hid (Below w.heap.size w wr) ∧ Hid ((kids.take k).any p = false)) (fun _ i _ => kids.length - (intOf i).toNat)
  case atStart => exact ⟨0, Nat.zero_le _, rfl, Below.refl _ _, (show Hid _ from by show _ = _; simp)⟩
  case round =>
    obtain ⟨k, hk, rfl, BW, AN⟩ := hrel
    by_cases hlt : k < kids.length
    · obtain ⟨t, ht, hm⟩ := kid_at hlt
      have hr := (HK.out.cells k t ht).keep BW.out
      obtain rfl : la = some ⟨bb, off, none⟩ := HK.out.la (by omega)
      have hcall := HP.out t hm wr BW.out
      have hnx := any_take_next (p := p) ht
      have hhit := any_of_hit (p := p) hm
      have hpt : ∃ q, p t = q := ⟨_, rfl⟩
      obtain ⟨q, hq⟩ := hpt
      rw [hq] at hcall hnx hhit
      obtain ⟨o2, l2⟩ := t
      obtain ⟨kd2, g2, x2, b2, s2, la2, lc2, ka2, kc2, ks2⟩ := o2
      simp only [VT.val, VT.cells, VT.o_mk, VT.kids_mk] at hcall
      obtain ⟨c0, c1, c2, c3, c4, c5, c6, c7, c8, c9⟩ := hr.ten
      clear hr
      have HCALL := Lib.hid hcall; have HNX := Lib.hid hnx; have HHT := Lib.hid ht; have HH := Lib.hid hhit; have HQ := Lib.hid hq
      clear hcall hnx ht hhit hq
      cases q with
      | true =>
        go_wp2_with (go_at_fn g; (with_reducible refine HCALL.out.mono ?_); rintro e w1 ⟨rfl, hb1⟩)
        go_ret
        exact IdxIs.mk (by rw [show kids.any p = true from HH.out trivial]; exact decide_eq_true (by omega)) (btr BW.out hb1)
      | false =>
        go_wp2_with (go_at_fn g; (with_reducible refine HCALL.out.mono ?_); rintro e w1 ⟨rfl, hb1⟩)
        go_roundw
        case rel => exact ⟨k + 1, by omega, by go_num, btr BW.out hb1, (show Hid _ from by show _ = _; rw [HNX.out, AN.out]; rfl)⟩
        case measure => simp [intOf]; omega
    · have hge : ¬ (k : Int) < (kids.length : Int) := by omega
      have HF : Hid (kids.any p = false) := by
        have := AN.out
        rw [List.take_of_length_le (by omega)] at this
        exact this
      go_wp2
      go_ret
      exact IdxIs.mk (by rw [HF.out]; rfl) BW.out
/-- slices.ContainsFunc at a list of values. -/
theorem vcontains (g : Nat) (lb : Array Value) (eg : ∀ args w, (callFunc g args).run Tryz.prog w = .ok (.enter g args) w) (p : VT → Bool) (la : Option Addr) (lc : Nat) (kids : List VT) (bb off : Nat) (w : World) (hK : Kids w la kids bb off)
    (hp : ∀ t ∈ kids, ∀ W, Below w.heap.size w W → Calls Tryz.prog g (#[t.val] ++ lb) W fun e w' => e = .returned (.bool (p t)) ∧ Below W.heap.size W w') :
    Calls Tryz.prog 43 #[.slice la kids.length lc, .func (.func g) #[] lb] w fun e w' => e = .returned (.bool (kids.any p)) ∧ Below w.heap.size w w' := by
  have H := Lib.hid (vindex g lb eg p la lc kids bb off w hK hp)
  clear hK hp
  go_enter Tryz.func43, Tryz.ntmps43
  go_wp2_with fail
  (with_reducible refine H.out.mono ?_)
  rintro e w1 ⟨n, rfl, hn, hb1⟩
  have HN := Lib.hid hn; have HB := Lib.hid hb1
  clear hn hb1
  go_wp2
  go_ret
  exact ⟨ret_bool HN.out, HB.out⟩
end Go.Proofs.YtebfggiodhaahaaGreatDoor
end
