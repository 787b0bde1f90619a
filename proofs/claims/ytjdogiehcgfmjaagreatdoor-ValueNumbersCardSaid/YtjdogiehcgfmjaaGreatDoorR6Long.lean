/-
  entrepotref6.long, May, of small values: the contracts.
-/
import Derived.Test.YtjdogiehcgfmjaaGreatDoorR6May
import Derived.Test.YtjdogiehcgfmjaaGreatDoorValLoops
namespace Go.Proofs.YtjdogiehcgfmjaaGreatDoor
open Go.RowKit Go.Shelf

/-- Tiny texts, few names. -/
def TinyO (o : Own) : Prop := o.text.size ≤ 300 ∧ o.keys.length ≤ 400 ∧ ∀ s ∈ o.keys, s.size ≤ 300
theorem few_tiny : ∀ (d : Nat) (T : VT), fewT d T ≤ 400 → T.Every TinyO
  | 0, T, h => by rw [fewT_zero] at h; omega
  | d + 1, T, h => by
    obtain ⟨_, _, hb, hk⟩ := fewT_few (d + 1) T h
    obtain ⟨o, kids⟩ := T
    have hk' : ∀ t ∈ kids, fewT d t ≤ 400 := hk
    refine .mk o kids ?_ (fun t ht => few_tiny d t (hk' t ht))
    have hb' : fewB o kids.length = false := hb
    unfold fewB at hb'
    rw [Bool.or_eq_false_iff, Bool.or_eq_false_iff, Bool.or_eq_false_iff, decide_eq_false_iff_not, decide_eq_false_iff_not, List.any_eq_false] at hb'
    obtain ⟨⟨⟨a, b⟩, _⟩, c⟩ := hb'
    exact ⟨by omega, by omega, fun s hs => by have := c s hs; simp at this; omega⟩
theorem tiny_over : ∀ (T : VT), T.Every TinyO → T.nodes ≤ 1000 → hasT overT T = false := by
  intro T
  induction T using VT.ind with
  | h o kids ih =>
    intro hE hn
    have hl := VT.length_nodes o kids
    obtain ⟨h1, h2, h3⟩ := hE.own
    refine hasT_no overT ?_ ?_
    · show overB o kids.length = false
      unfold overB
      have hk : (o.keys.any fun s => decide (4096 < s.size)) = false := by
        rw [List.any_eq_false]
        intro s hs
        have := h3 s hs
        simp; omega
      rw [hk]
      split
      · exact decide_eq_false (by omega)
      split
      · exact decide_eq_false (by omega)
      split
      · rw [decide_eq_false (by omega)]; rfl
      · rfl
    · rw [List.any_eq_false]
      intro t ht
      rw [ih t ht (hE.mem ht) (by have := VT.nodes_kid (o := o) ht; omega)]
      simp

set_option maxHeartbeats 2000000 in
theorem long_core (kd : Int) (g : Bool) (x0 x1 x2 x3 b : Int) (s : ByteArray) (la : Option Addr) (lc : Nat) (ka : Option Addr) (kc : Nat) (keys : List ByteArray) (kids : List VT) (kb koff bb off : Nat) (w : World)
    (hKk : KeysL w ka keys kb koff) (hK : Kids w la kids bb off) (h1 : s.size ≤ 300) (h2 : keys.length ≤ 400) (h3 : kids.length ≤ 1000) (hs : ∀ s ∈ keys, s.size ≤ 300)
    (ih : ∀ t ∈ kids, ∀ W, t.In W → Calls Tryz.prog 48 #[t.val] W fun e w' => e = .returned (.bool false) ∧ Below W.heap.size W w') :
    Calls Tryz.prog 48 #[V10 kd g x0 x1 x2 x3 b s la kids.length lc ka keys.length kc] w fun e w' => e = .returned (.bool false) ∧ Below w.heap.size w w' := by
  have e1 : ¬ (4096 : Int) < (s.size : Int) := by omega
  have e2 : ¬ (1000 : Int) < (keys.length : Int) := by omega
  have e3 : ¬ (1000 : Int) < (kids.length : Int) := by omega
  have HKK := Lib.hid hKk; have HK := Lib.hid hK; have HS := Lib.hid hs; have HI := Lib.hid ih
  clear hKk hK hs ih
  go_enter Tryz.func48, Tryz.ntmps48
  go_wp2
  go_loopw [3] (fun i wr => ∃ k : Nat, k ≤ keys.length ∧ i = .int .i64 k ∧ Hid (Below w.heap.size w wr ∧ Row10 wr w.heap.size (.int .i64 kd) (.bool g) (.int .u64 x0) (.int .u64 x1) (.int .u64 x2) (.int .u64 x3) (.int .u64 b) (.string s) (.slice la kids.length lc) (.slice ka keys.length kc))) (fun i _ => keys.length - (intOf i).toNat)
  case atStart => exact ⟨0, Nat.zero_le _, rfl, (show Hid _ from ⟨bal (Below.refl _ _) _, Row10.new _ _ _ _ _ _ _ _ _ _ _⟩)⟩
  case round =>
    obtain ⟨k, hk, rfl, BW⟩ := hrel
    obtain ⟨p0, p1, p2, p3, p4, p5, p6, p7, p8, p9⟩ := BW.out.2.parts
    by_cases hlt : k < keys.length
    · obtain ⟨t, ht, hm⟩ := key_at hlt
      have hr := cell_keep BW.out.1 (HKK.out.cells k t ht)
      have hb := HS.out t hm
      obtain rfl : ka = some ⟨kb, koff, none⟩ := HKK.out.ka (by omega)
      have hb2 : ¬ (4096 : Int) < (t.size : Int) := by omega
      clear ht hm
      go_wp2
      go_roundw
      case rel => exact ⟨k + 1, by omega, by go_num, BW.out⟩
      case measure => simp [intOf]; omega
    · have hge : ¬ (k : Int) < (keys.length : Int) := by omega
      clear p0 p1 p2 p3 p4 p5 p6 p7
      go_wp2
      obtain ⟨wo, hwo⟩ : ∃ wo : World, wo = wr := ⟨_, rfl⟩
      subst hwo
      go_loopw [4] (fun i wr => ∃ k : Nat, k ≤ kids.length ∧ i = .int .i64 k ∧ Hid (Below w.heap.size w wr ∧ Row10 wr w.heap.size (.int .i64 kd) (.bool g) (.int .u64 x0) (.int .u64 x1) (.int .u64 x2) (.int .u64 x3) (.int .u64 b) (.string s) (.slice la kids.length lc) (.slice ka keys.length kc))) (fun i _ => kids.length - (intOf i).toNat)
      case atStart => exact ⟨0, Nat.zero_le _, rfl, BW.out⟩
      case round =>
        clear BW p8 p9 hge hlt
        obtain ⟨k2, hk2, rfl, BV⟩ := hrel
        obtain ⟨p0, p1, p2, p3, p4, p5, p6, p7, p8, p9⟩ := BV.out.2.parts
        clear p0 p1 p2 p3 p4 p5 p6 p7 p9
        by_cases hlt2 : k2 < kids.length
        · obtain ⟨t, ht, hm⟩ := kid_at hlt2
          have hr := (HK.out.cells k2 t ht).keep BV.out.1
          obtain rfl : la = some ⟨bb, off, none⟩ := HK.out.la (by omega)
          have hti := (HK.out.ins k2 t ht).keep BV.out.1
          have hcall := HI.out t hm
          obtain ⟨o2, l2⟩ := t
          obtain ⟨kd2, g2, x2', b2, s2, la2, lc2, ka2, kc2, ks2⟩ := o2
          simp only [VT.val, VT.cells, VT.o_mk, VT.kids_mk] at hcall
          obtain ⟨c0, c1, c2, c3, c4, c5, c6, c7, c8, c9⟩ := hr.ten
          clear hr
          have HTI := Lib.hid hti; have HCALL := Lib.hid hcall
          clear hti hcall ht
          go_wp2_with fail
          ((with_reducible refine (HCALL.out _ HTI.out).mono ?_); rintro e w1 ⟨rfl, hb1⟩)
          have HB1 := Lib.hid hb1
          clear hb1
          go_wp2
          go_roundw
          case rel => exact ⟨k2 + 1, by omega, by go_num, (show Hid _ from ⟨btr BV.out.1 HB1.out, BV.out.2.keep HB1.out⟩)⟩
          case measure => simp [intOf]; omega
        · have hge2 : ¬ (k2 : Int) < (kids.length : Int) := by omega
          go_wp2
          go_ret
          exact ⟨rfl, BV.out.1⟩
theorem long_no : ∀ (T : VT), T.Every TinyO → T.nodes ≤ 1000 → ∀ w, T.In w → Calls Tryz.prog 48 #[T.val] w fun e w' => e = .returned (.bool false) ∧ Below w.heap.size w w' := by
  intro T
  induction T using VT.ind with
  | h o kids ih =>
    intro hE hn w hI
    obtain ⟨kb, koff, hKk⟩ := hI.keys'
    obtain ⟨bb, off, hK⟩ := hI.kids'
    obtain ⟨h1, h2, h3⟩ := hE.own
    have hl := VT.length_nodes o kids
    exact long_core _ _ _ _ _ _ _ _ _ _ _ _ o.keys kids kb koff bb off w hKk hK h1 h2 (by omega) h3 (fun t ht W hW => ih t ht (hE.mem ht) (by have := VT.nodes_kid (o := o) ht; omega) W hW)

section
variable (kd : Int) (g : Bool) (x0 x1 x2 x3 b : Int) (s : ByteArray) (la : Option Addr) (n lc : Nat) (ka : Option Addr) (m kc : Nat) (w : World)
theorem rmay_deep (d : Nat) (hd : 16 < d) (hd2 : d ≤ 1000000) (k1 : ∀ W, Below w.heap.size w W → Calls Tryz.prog 30 #[V10 kd g x0 x1 x2 x3 b s la n lc ka m kc] W fun e w' => e = .returned (.int .i64 (d : Nat)) ∧ Below W.heap.size W w') :
    Calls Tryz.prog 18 #[V10 kd g x0 x1 x2 x3 b s la n lc ka m kc] w fun e w' => e = .returned (.int .i64 4) ∧ Below w.heap.size w w' := by
  have K1 := Lib.hid k1; clear k1
  have h1 : (16 : Int) < (d : Int) := by omega
  go_enter Tryz.func18, Tryz.ntmps18
  go_wp2_with (go_at_call 30; ((with_reducible refine (K1.out _ (bal (Below.refl _ _) _)).mono ?_); rintro e w1 ⟨rfl, hb1⟩))
  go_ret
  exact ⟨rfl, btr (bal (Below.refl _ _) _) hb1⟩
theorem rmay_core (d N : Nat) (hd : ¬ 16 < d) (hN : N ≤ 10000) (r : Bool) (R : Int) (hR : R = if r then 0 else 1)
    (k1 : ∀ W, Below w.heap.size w W → Calls Tryz.prog 30 #[V10 kd g x0 x1 x2 x3 b s la n lc ka m kc] W fun e w' => e = .returned (.int .i64 (d : Nat)) ∧ Below W.heap.size W w')
    (k2 : ∀ W, Below w.heap.size w W → Calls Tryz.prog 47 #[V10 kd g x0 x1 x2 x3 b s la n lc ka m kc] W fun e w' => e = .returned (.int .i64 (N : Nat)) ∧ Below W.heap.size W w')
    (k3 : ∀ W, Below w.heap.size w W → Calls Tryz.prog 48 #[V10 kd g x0 x1 x2 x3 b s la n lc ka m kc] W fun e w' => e = .returned (.bool false) ∧ Below W.heap.size W w')
    (k4 : ∀ W, Below w.heap.size w W → Calls Tryz.prog 49 #[V10 kd g x0 x1 x2 x3 b s la n lc ka m kc] W fun e w' => e = .returned (.bool r) ∧ Below W.heap.size W w') :
    Calls Tryz.prog 18 #[V10 kd g x0 x1 x2 x3 b s la n lc ka m kc] w fun e w' => e = .returned (.int .i64 R) ∧ Below w.heap.size w w' := by
  have K1 := Lib.hid k1; have K2 := Lib.hid k2; have K3 := Lib.hid k3; have K4 := Lib.hid k4
  clear k1 k2 k3 k4
  have h1 : ¬ (16 : Int) < (d : Int) := by omega
  have h2 : ¬ (10000 : Int) < (N : Int) := by omega
  cases r
  all_goals
    have HR := Lib.hid hR
    clear hR
    go_enter Tryz.func18, Tryz.ntmps18
    go_wp2_with fail
    ((with_reducible refine (K1.out _ (bal (Below.refl _ _) _)).mono ?_); rintro e w1 ⟨rfl, hb1⟩)
    have R1 := Row10.keep hb1 (Row10.new w (.int .i64 kd) (.bool g) (.int .u64 x0) (.int .u64 x1) (.int .u64 x2) (.int .u64 x3) (.int .u64 b) (.string s) (.slice la n lc) (.slice ka m kc))
    have B1 := Lib.hid (btr (bal (Below.refl _ w) _) hb1)
    obtain ⟨p0, p1, p2, p3, p4, p5, p6, p7, p8, p9⟩ := R1.parts
    clear hb1
    go_wp2_with fail
    ((with_reducible refine (K2.out _ B1.out).mono ?_); rintro e w2 ⟨rfl, hb2⟩)
    have R2 := Row10.keep hb2 R1
    have B2 := Lib.hid (btr B1.out hb2)
    clear p0 p1 p2 p3 p4 p5 p6 p7 p8 p9 R1 hb2 B1
    obtain ⟨p0, p1, p2, p3, p4, p5, p6, p7, p8, p9⟩ := R2.parts
    go_wp2_with fail
    ((with_reducible refine (K3.out _ B2.out).mono ?_); rintro e w3 ⟨rfl, hb3⟩)
    have R3 := Row10.keep hb3 R2
    have B3 := Lib.hid (btr B2.out hb3)
    clear p0 p1 p2 p3 p4 p5 p6 p7 p8 p9 R2 hb3 B2
    obtain ⟨p0, p1, p2, p3, p4, p5, p6, p7, p8, p9⟩ := R3.parts
    go_wp2_with (go_at_call 49; ((with_reducible refine (K4.out _ B3.out).mono ?_); rintro e w4 ⟨rfl, hb4⟩))
    go_ret
    exact ⟨ret_int HR.out.symm, btr B3.out hb4⟩
end
/-- What may be tells the tiny, too. -/
theorem few_all {T : VT} {w : World} (h : fewOk T = true) (hI : T.In w) (hT : Tb w) : Qv T w ∧ T.nodes ≤ 400 ∧ T.depth ≤ 40 ∧ T.Every TinyO := by
  obtain ⟨a, b, c⟩ := few_q h hI hT
  exact ⟨a, b, c, few_tiny 40 T (of_decide_eq_true h)⟩
/-- entrepotref6.May, of a few. -/
theorem r6may_few (T : VT) (w : World) (hQ : Qv T w) (hn : T.nodes ≤ 400) (hd : T.depth ≤ 40) (hE : T.Every TinyO) :
    Calls Tryz.prog 18 #[T.val] w fun e w' => e = .returned (.int .i64 (mayN T)) ∧ Below w.heap.size w w' := by
  have k1 := fun W (hb : Below w.heap.size w W) => rdepth T (by omega) W (hQ.ins.keep hb)
  have k2 := fun W (hb : Below w.heap.size w W) => rnodes T (by omega) W (hQ.ins.keep hb)
  have k3 := fun W (hb : Below w.heap.size w W) => long_no T hE (by omega) W (hQ.ins.keep hb)
  have k4 := fun W (hb : Below w.heap.size w W) => rright_any T W (hQ.keep hb)
  unfold mayN
  rw [tiny_over T hE (by omega)]
  by_cases h : 16 < T.depth
  · rw [if_pos h]
    exact rmay_deep _ _ _ _ _ _ _ _ _ _ _ _ _ _ w _ h (by omega) k1
  · rw [if_neg h, if_neg (by simp)]
    refine rmay_core _ _ _ _ _ _ _ _ _ _ _ _ _ _ w _ _ h (by omega) _ _ ?_ k1 k2 k3 k4
    cases hasT wrongT T <;> rfl
end Go.Proofs.YtjdogiehcgfmjaaGreatDoor
