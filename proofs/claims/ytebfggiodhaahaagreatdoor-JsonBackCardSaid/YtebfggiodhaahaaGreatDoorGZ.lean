/-
  ValNumber ValLoops ValTold ValFew, one behind the other: a claim holds at most 60 files.
-/
import Derived.Test.YtebfggiodhaahaaGreatDoorValIn
import Derived.Test.YtebfggiodhaahaaGreatDoorGX
import Derived.Test.YtebfggiodhaahaaGreatDoorShelf
section
namespace Go.Proofs.YtebfggiodhaahaaGreatDoor
open Go.RowKit Go.Shelf

end Go.Proofs.YtebfggiodhaahaaGreatDoor
end
section
namespace Go.Proofs.YtebfggiodhaahaaGreatDoor
open Go.RowKit Go.Shelf

end Go.Proofs.YtebfggiodhaahaaGreatDoor
end
section
namespace Go.Proofs.YtebfggiodhaahaaGreatDoor
open Go.RowKit Go.Shelf
attribute [local go_sem ↓] eql_nat neq_nat eql_int5 neq_int5

/-- A value of a kind and a number alone. -/
def leafT (k : Int) (x : Nat) : VT := .mk ⟨k, false, x, 0, ⟨#[]⟩, none, 0, none, 0, []⟩ []
end Go.Proofs.YtebfggiodhaahaaGreatDoor
end
section
namespace Go.Proofs.YtebfggiodhaahaaGreatDoor
open Go.RowKit Go.Shelf

section
variable (kd : Int) (g : Bool) (x0 x1 x2 x3 b : Int) (s : ByteArray) (la : Option Addr) (n lc : Nat) (ka : Option Addr) (m kc : Nat) (w : World)
theorem few_zero : Calls Tryz.prog 14 #[V10 kd g x0 x1 x2 x3 b s la n lc ka m kc, .int .i64 0] w fun e w' => e = .returned (.int .i64 1000) ∧ Below w.heap.size w w' := by
  go_enter Tryz.func14, Tryz.ntmps14
  go_wp2
  go_ret
  exact ⟨rfl, bal (Below.refl _ _) _⟩
theorem few_text (d : Int) (hd : (d == 0) = false) (hs : s.size ≤ 9223372036854775807) (h : 300 < s.size) : Calls Tryz.prog 14 #[V10 kd g x0 x1 x2 x3 b s la n lc ka m kc, .int .i64 d] w fun e w' => e = .returned (.int .i64 1000) ∧ Below w.heap.size w w' := by
  have h1 : (300 : Int) < (s.size : Int) := by omega
  go_enter Tryz.func14, Tryz.ntmps14
  go_wp2
  go_ret
  exact ⟨rfl, bal (Below.refl _ _) _⟩
theorem few_keys (d : Int) (hd : (d == 0) = false) (h : s.size ≤ 300) (hm : m ≤ 9223372036854775807) (h2 : 400 < m) : Calls Tryz.prog 14 #[V10 kd g x0 x1 x2 x3 b s la n lc ka m kc, .int .i64 d] w fun e w' => e = .returned (.int .i64 1000) ∧ Below w.heap.size w w' := by
  have h1 : ¬ (300 : Int) < (s.size : Int) := by omega
  have h3 : (400 : Int) < (m : Int) := by omega
  go_enter Tryz.func14, Tryz.ntmps14
  go_wp2
  go_ret
  exact ⟨rfl, bal (Below.refl _ _) _⟩
theorem few_list (d : Int) (hd : (d == 0) = false) (h : s.size ≤ 300) (h2 : m ≤ 400) (hn : n ≤ 9223372036854775807) (h3 : 400 < n) : Calls Tryz.prog 14 #[V10 kd g x0 x1 x2 x3 b s la n lc ka m kc, .int .i64 d] w fun e w' => e = .returned (.int .i64 1000) ∧ Below w.heap.size w w' := by
  have h1 : ¬ (300 : Int) < (s.size : Int) := by omega
  have h4 : ¬ (400 : Int) < (m : Int) := by omega
  have h5 : (400 : Int) < (n : Int) := by omega
  go_enter Tryz.func14, Tryz.ntmps14
  go_wp2
  go_ret
  exact ⟨rfl, bal (Below.refl _ _) _⟩
end

set_option maxHeartbeats 2000000 in
theorem few_core (kd : Int) (g : Bool) (x0 x1 x2 x3 b : Int) (s : ByteArray) (la : Option Addr) (lc : Nat) (ka : Option Addr) (kc : Nat) (keys : List ByteArray) (kids : List VT) (kb koff bb off : Nat) (d R : Nat) (hd : d ≤ 40) (w : World)
    (hKk : KeysL w ka keys kb koff) (hK : Kids w la kids bb off) (h1 : s.size ≤ 300) (h2 : keys.length ≤ 400) (h3 : kids.length ≤ 400)
    (hbad : ∀ (k : Nat) (s : ByteArray), keys[k]? = some s → 300 < s.size → R = 1000)
    (hend : (∀ (k : Nat) (s : ByteArray), k < keys.length → keys[k]? = some s → ¬ 300 < s.size) → ∀ k, (kids.length ≤ k ∨ 1000 ≤ fTo d kids k) → R = fTo d kids k)
    (ih : ∀ t ∈ kids, ∀ W, t.In W → Calls Tryz.prog 14 #[t.val, .int .i64 (d : Nat)] W fun e w' => e = .returned (.int .i64 (fewT d t : Nat)) ∧ Below W.heap.size W w') :
    Calls Tryz.prog 14 #[V10 kd g x0 x1 x2 x3 b s la kids.length lc ka keys.length kc, .int .i64 ((d : Int) + 1)] w fun e w' => e = .returned (.int .i64 (R : Nat)) ∧ Below w.heap.size w w' := by
  have e0 : (((d : Int) + 1) == 0) = false := by rw [beq_eq_false_iff_ne]; omega
  have e1 : ¬ (300 : Int) < (s.size : Int) := by omega
  have e2 : ¬ (400 : Int) < (keys.length : Int) := by omega
  have e3 : ¬ (400 : Int) < (kids.length : Int) := by omega
  have HKK := Lib.hid hKk; have HK := Lib.hid hK; have HBAD := Lib.hid hbad; have HEND := Lib.hid hend; have HI := Lib.hid ih
  clear hKk hK hbad hend ih
  go_enter Tryz.func14, Tryz.ntmps14
  go_wp2
  go_loopw [5] (fun i wr => ∃ k : Nat, k ≤ keys.length ∧ i = .int .i64 k ∧ Hid (Below w.heap.size w wr ∧ Row10 wr w.heap.size (.int .i64 kd) (.bool g) (.int .u64 x0) (.int .u64 x1) (.int .u64 x2) (.int .u64 x3) (.int .u64 b) (.string s) (.slice la kids.length lc) (.slice ka keys.length kc)) ∧ Hid (∀ (j : Nat) (s : ByteArray), j < k → keys[j]? = some s → ¬ 300 < s.size)) (fun i _ => keys.length - (intOf i).toNat)
  case atStart => exact ⟨0, Nat.zero_le _, rfl, (show Hid _ from ⟨bal (Below.refl _ _) _, Row10.new _ _ _ _ _ _ _ _ _ _ _⟩), (show Hid _ from fun j s h => absurd h (Nat.not_lt_zero _))⟩
  case round =>
    obtain ⟨k, hk, rfl, BW, AN⟩ := hrel
    obtain ⟨p0, p1, p2, p3, p4, p5, p6, p7, p8, p9⟩ := BW.out.2.parts
    by_cases hlt : k < keys.length
    · obtain ⟨t, ht, hm⟩ := key_at hlt
      have hr := cell_keep BW.out.1 (HKK.out.cells k t ht)
      have hsz := HKK.out.sizes t hm
      obtain rfl : ka = some ⟨kb, koff, none⟩ := HKK.out.ka (by omega)
      by_cases hb : 300 < t.size
      · have hb2 : (300 : Int) < (t.size : Int) := by omega
        have HR := Lib.hid (HBAD.out k t ht hb)
        clear ht hm
        go_wp2
        go_ret
        exact ⟨ret_int (by rw [HR.out]; rfl), BW.out.1⟩
      · have hb2 : ¬ (300 : Int) < (t.size : Int) := by omega
        have HT := Lib.hid ht
        clear ht hm
        go_wp2
        go_roundw
        case rel => exact ⟨k + 1, by omega, by go_num, BW.out, (show Hid _ from fun j s hj hs => by
          by_cases e : j = k
          · subst e
            rw [HT.out] at hs
            obtain rfl := Option.some.inj hs
            exact hb
          · exact AN.out j s (by omega) hs)⟩
        case measure => simp [intOf]; omega
    · have hge : ¬ (k : Int) < (keys.length : Int) := by omega
      have HE := Lib.hid (HEND.out (fun j s hj hs => AN.out j s (by omega) hs))
      clear p0 p1 p2 p3 p4 p5 p6 p7
      go_wp2
      obtain ⟨wo, hwo⟩ : ∃ wo : World, wo = wr := ⟨_, rfl⟩
      subst hwo
      go_loopw [6, 7] (fun a i wr => ∃ k : Nat, k ≤ kids.length ∧ i = .int .i64 k ∧ a = .int .i64 (fTo d kids k : Nat) ∧ Hid (Below w.heap.size w wr ∧ Row10 wr w.heap.size (.int .i64 kd) (.bool g) (.int .u64 x0) (.int .u64 x1) (.int .u64 x2) (.int .u64 x3) (.int .u64 b) (.string s) (.slice la kids.length lc) (.slice ka keys.length kc))) (fun _ i _ => kids.length - (intOf i).toNat)
      case atStart => exact ⟨0, Nat.zero_le _, rfl, by rw [fTo_zero]; rfl, BW.out⟩
      case round =>
        clear BW AN p8 p9 hge hlt
        obtain ⟨k2, hk2, rfl, rfl, BV⟩ := hrel
        obtain ⟨p0, p1, p2, p3, p4, p5, p6, p7, p8, p9⟩ := BV.out.2.parts
        clear p0 p1 p2 p3 p4 p5 p6 p7 p9
        have hcap := fTo_cap d kids k2
        by_cases hlt2 : k2 < kids.length
        · by_cases hst : fTo d kids k2 < 1000
          · obtain ⟨t, ht, hm⟩ := kid_at hlt2
            have hr := (HK.out.cells k2 t ht).keep BV.out.1
            obtain rfl : la = some ⟨bb, off, none⟩ := HK.out.la (by omega)
            have hti := (HK.out.ins k2 t ht).keep BV.out.1
            have hcall := HI.out t hm
            have hnx := fTo_next ht hst
            have hfc := fewT_cap d t
            have hst2 : ((fTo d kids k2 : Nat) : Int) < 1000 := by omega
            have hsum : (0 : Int) ≤ (fTo d kids k2 : Nat) + (fewT d t : Nat) ∧ ((fTo d kids k2 : Nat) : Int) + (fewT d t : Nat) ≤ 100000 := by omega
            obtain ⟨o2, l2⟩ := t
            obtain ⟨kd2, g2, x2', b2, s2, la2, lc2, ka2, kc2, ks2⟩ := o2
            simp only [VT.val, VT.cells, VT.o_mk, VT.kids_mk] at hcall
            obtain ⟨c0, c1, c2, c3, c4, c5, c6, c7, c8, c9⟩ := hr.ten
            clear hr
            have HTI := Lib.hid hti; have HCALL := Lib.hid hcall; have HNX := Lib.hid hnx
            clear hti hcall hnx ht
            go_wp2_with fail
            ((with_reducible refine (HCALL.out _ HTI.out).mono ?_); rintro e w1 ⟨rfl, hb1⟩)
            have HB1 := Lib.hid hb1
            clear hb1
            go_wp2
            go_roundw
            case rel => exact ⟨k2 + 1, by omega, by go_num, by rw [HNX.out]; exact congrArg (Value.int .i64) (by omega), (show Hid _ from ⟨btr BV.out.1 HB1.out, BV.out.2.keep HB1.out⟩)⟩
            case measure => simp [intOf]; omega
          · have hst2 : ¬ ((fTo d kids k2 : Nat) : Int) < 1000 := by omega
            have HR := Lib.hid (HE.out k2 (.inr (by omega)))
            go_wp2
            go_ret
            exact ⟨ret_int (by rw [HR.out]), BV.out.1⟩
        · have hge2 : ¬ (k2 : Int) < (kids.length : Int) := by omega
          have HR := Lib.hid (HE.out k2 (.inl (by omega)))
          go_wp2
          go_ret
          exact ⟨ret_int (by rw [HR.out]), BV.out.1⟩
/-- few. -/
theorem few_any : ∀ (d : Nat), d ≤ 41 → ∀ (T : VT) (w : World), T.In w → Calls Tryz.prog 14 #[T.val, .int .i64 (d : Nat)] w fun e w' => e = .returned (.int .i64 (fewT d T : Nat)) ∧ Below w.heap.size w w'
  | 0, _, T, w, _ => by
    obtain ⟨o, kids⟩ := T
    exact few_zero _ _ _ _ _ _ _ _ _ _ _ _ _ _ w
  | d + 1, hd, T, w, hI => by
    have ih := few_any d (by omega)
    obtain ⟨o, kids⟩ := T
    obtain ⟨kb, koff, hKk⟩ := hI.keys'
    obtain ⟨bb, off, hK⟩ := hI.kids'
    have hs : o.text.size ≤ 9223372036854775807 := by obtain ⟨_, _, _, h, _⟩ := hI.wf; unfold maxLen at h; simp only [VT.o_mk] at h; omega
    have hn := hK.len
    have hm := hKk.len
    rw [val_eq]
    have e0 : (((d : Int) + 1) == 0) = false := by rw [beq_eq_false_iff_ne]; omega
    have cast : (((d + 1 : Nat)) : Int) = (d : Int) + 1 := by omega
    rw [cast]
    by_cases h1 : 300 < o.text.size
    · rw [fewT_bad (T := .mk o kids) (by simp [fewB, h1])]
      exact few_text _ _ _ _ _ _ _ _ _ _ _ _ _ _ w _ e0 hs h1
    by_cases h2 : 400 < o.keys.length
    · rw [fewT_bad (T := .mk o kids) (by simp [fewB, h2])]
      exact few_keys _ _ _ _ _ _ _ _ _ _ _ _ _ _ w _ e0 (by omega) hm h2
    by_cases h3 : 400 < kids.length
    · rw [fewT_bad (T := .mk o kids) (by simp [fewB, h3])]
      exact few_list _ _ _ _ _ _ _ _ _ _ _ _ _ _ w _ e0 (by omega) (by omega) hn h3
    refine few_core _ _ _ _ _ _ _ _ _ _ _ _ o.keys kids kb koff bb off d _ (by omega) w hKk hK (by omega) (by omega) (by omega) (fun k s hk hs => ?_) (fun hall k hk => ?_) (fun t ht W hW => ih t W hW)
    · exact fewT_bad (T := .mk o kids) (by
        have : (o.keys.any fun s => decide (300 < s.size)) = true := List.any_eq_true.2 ⟨s, List.mem_of_getElem? hk, by simpa using hs⟩
        simp [fewB, this])
    · have hB : fewB o kids.length = false := by
        have : (o.keys.any fun s => decide (300 < s.size)) = false := by
          rw [List.any_eq_false]
          intro s hs
          obtain ⟨i, hi⟩ := List.getElem?_of_mem hs
          have := hall i s (List.getElem?_eq_some_iff.1 hi).1 hi
          simpa using this
        simp [fewB, this, h1, h2, h3]
      rw [fewT_good (T := .mk o kids) hB]
      rcases hk with hk | hk
      · rw [VT.kids_mk, ← fTo_all]
        unfold fTo
        rw [List.take_of_length_le hk, List.take_length]
      · exact fTo_stop hk

/-- Is a value few? -/
def fewOk (T : VT) : Bool := decide (fewT 40 T ≤ 400)
theorem vfew (T : VT) (w : World) (hI : T.In w) : Calls Tryz.prog 9 #[T.val] w fun e w' => e = .returned (.bool (fewOk T)) ∧ Below w.heap.size w w' := by
  have h := Lib.hid (show ∀ W, Below w.heap.size w W → Calls Tryz.prog 14 #[T.val, .int .i64 40] W fun e w' => e = .returned (.int .i64 (fewT 40 T : Nat)) ∧ Below W.heap.size W w' from fun W hb => few_any 40 (by omega) T W (hI.keep hb))
  unfold fewOk
  have cap := fewT_cap 40 T
  generalize fewT 40 T = F at *
  have HD : Hid (decide ((F : Int) ≤ 400) = decide (F ≤ 400)) := by show _ = _; rw [Bool.eq_iff_iff]; simp; omega
  clear hI
  obtain ⟨o2, l2⟩ := T
  obtain ⟨kd2, g2, x2, b2, s2, la2, lc2, ka2, kc2, ks2⟩ := o2
  simp only [VT.val, VT.cells, VT.o_mk, VT.kids_mk] at h ⊢
  go_enter Tryz.func9, Tryz.ntmps9
  go_wp2_with fail
  ((with_reducible refine (h.out _ (bal (Below.refl _ _) _)).mono ?_); rintro e w1 ⟨rfl, hb1⟩)
  have HB1 := Lib.hid hb1
  clear hb1
  go_wp2
  go_ret
  exact ⟨ret_bool HD.out, btr (bal (Below.refl _ _) _) HB1.out⟩
/-- What is few is small. -/
theorem few_small : ∀ (d : Nat) (T : VT), fewT d T ≤ 400 → T.Every SmallO
  | 0, T, h => by rw [fewT_zero] at h; omega
  | d + 1, T, h => by
    obtain ⟨_, _, hb, hk⟩ := fewT_few (d + 1) T h
    obtain ⟨o, kids⟩ := T
    have hk' : ∀ t ∈ kids, fewT d t ≤ 400 := hk
    refine .mk o kids ?_ (fun t ht => few_small d t (hk' t ht))
    have hb' : fewB o kids.length = false := hb
    unfold fewB at hb'
    rw [Bool.or_eq_false_iff, Bool.or_eq_false_iff, Bool.or_eq_false_iff, decide_eq_false_iff_not, List.any_eq_false] at hb'
    obtain ⟨⟨⟨a, _⟩, _⟩, c⟩ := hb'
    exact ⟨by omega, fun s hs => by have := c s hs; simp at this; omega⟩
theorem few_q {T : VT} {w : World} (h : fewOk T = true) (hI : T.In w) (hT : Tb w) : Qv T w ∧ T.nodes ≤ 400 ∧ T.depth ≤ 40 := by
  unfold fewOk at h
  have h' := of_decide_eq_true h
  obtain ⟨a, b, _, _⟩ := fewT_few 40 T h'
  exact ⟨⟨hI, hT, few_small 40 T h'⟩, by omega, b⟩
end Go.Proofs.YtebfggiodhaahaaGreatDoor
end
