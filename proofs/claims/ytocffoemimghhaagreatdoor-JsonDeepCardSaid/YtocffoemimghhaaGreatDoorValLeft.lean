/-
  value.left, value.has: the contracts.
-/
import Derived.Test.YtocffoemimghhaaGreatDoorValHas
namespace Go.Proofs.YtocffoemimghhaaGreatDoor
open Go.RowKit Go.Shelf

theorem vleft_core (kd : Int) (g : Bool) (x0 x1 x2 x3 b : Int) (s : ByteArray) (la : Option Addr) (lc : Nat) (ka : Option Addr) (m kc : Nat) (kids : List VT) (bb off : Nat) (N R : Int) (w : World) (hK : Kids w la kids bb off)
    (hR : R = N - 1 - (nTo kids kids.length : Nat)) (hle : ∀ k, (nTo kids k : Int) ≤ N - 1) (hd : N ≤ 1000000) (hd0 : 1 ≤ N)
    (ih : ∀ t ∈ kids, ∀ (z : Int) W, (t.nodes : Int) ≤ z → z ≤ 1000000 → t.In W → Calls Tryz.prog 22 #[t.val, .int .i64 z] W fun e w' => e = .returned (.int .i64 (z - (t.nodes : Nat))) ∧ Below W.heap.size W w') :
    Calls Tryz.prog 22 #[V10 kd g x0 x1 x2 x3 b s la kids.length lc ka m kc, .int .i64 N] w fun e w' => e = .returned (.int .i64 R) ∧ Below w.heap.size w w' := by
  have hn := hK.len
  have HK := Lib.hid hK; have HI := Lib.hid ih; have HD := Lib.hid hR; have HL := Lib.hid hle
  clear hK ih hR hle
  go_enter Tryz.func22, Tryz.ntmps22
  go_wp2
  go_loopw [1, 12] (fun gr i wr => ∃ (k : Nat) (z : Int), k ≤ kids.length ∧ i = .int .i64 k ∧ gr = .int .i64 z ∧ Hid (z = N - 1 - (nTo kids k : Nat)) ∧ Hid (Below w.heap.size w wr)) (fun _ i _ => kids.length - (intOf i).toNat)
  case atStart => exact ⟨0, N - 1, Nat.zero_le _, rfl, rfl, (show Hid _ from by show _ = _; rw [nTo_zero]; simp), bal (Below.refl _ _) _⟩
  case round =>
    obtain ⟨k, z, hk, rfl, rfl, HZ, BW⟩ := hrel
    by_cases hlt : k < kids.length
    · obtain ⟨t, ht, hm⟩ := kid_at hlt
      have hr := (HK.out.cells k t ht).keep BW.out
      obtain rfl : la = some ⟨bb, off, none⟩ := HK.out.la (by omega)
      have hti := (HK.out.ins k t ht).keep BW.out
      have hnx := nTo_next ht
      have hl0 := HL.out k
      have hl1 := HL.out (k + 1)
      have hz := HZ.out
      have hz0 : 0 ≤ z := by omega
      have hz1 : z ≤ 1000000 := by omega
      have hz2 : (t.nodes : Int) ≤ z := by omega
      have HEND : Hid (z - (t.nodes : Nat) = N - 1 - (nTo kids (k + 1) : Nat)) := by show _ = _; omega
      have hcall := HI.out t hm z
      obtain ⟨o2, l2⟩ := t
      obtain ⟨kd2, g2, x2, b2, s2, la2, lc2, ka2, kc2, ks2⟩ := o2
      simp only [VT.val, VT.cells, VT.o_mk, VT.kids_mk] at hcall
      obtain ⟨c0, c1, c2, c3, c4, c5, c6, c7, c8, c9⟩ := hr.ten
      clear hr hz hl0 hl1
      have HTI := Lib.hid hti; have HCALL := Lib.hid hcall; have HNX := Lib.hid hnx; have HHT := Lib.hid ht; have HZ2 := Lib.hid hz2
      clear hti hcall hnx ht hz2
      go_wp2_with fail
      ((with_reducible refine (HCALL.out _ HZ2.out hz1 (HTI.out.keep (bal (Below.refl _ _) _))).mono ?_); rintro e w1 ⟨rfl, hb1⟩)
      have HB1 := Lib.hid hb1
      clear hb1
      go_wp2
      go_roundw
      case rel => exact ⟨k + 1, _, by omega, by go_num, rfl, HEND, btr (bal BW.out _) HB1.out⟩
      case measure => simp [intOf]; omega
    · have hge : ¬ (k : Int) < (kids.length : Int) := by omega
      have HF : Hid (z = R) := by show _ = _; have := HD.out; have := HZ.out; have hkk : k = kids.length := by omega
                                  subst hkk; omega
      go_wp2
      go_ret
      exact ⟨ret_int HF.out, BW.out⟩
/-- value.left, where there are nodes enough. -/
theorem vleft : ∀ (T : VT) (z : Int) w, (T.nodes : Int) ≤ z → z ≤ 1000000 → T.In w → Calls Tryz.prog 22 #[T.val, .int .i64 z] w fun e w' => e = .returned (.int .i64 (z - (T.nodes : Nat))) ∧ Below w.heap.size w w' := by
  intro T
  induction T using VT.ind with
  | h o kids ih =>
    intro z w h1 h2 hI
    obtain ⟨bb, off, hK⟩ := hI.kids'
    have hp := VT.nodes_pos (.mk o kids)
    exact vleft_core _ _ _ _ _ _ _ _ _ _ _ _ _ kids bb off z _ w hK (by rw [nTo_all o kids]; omega) (fun k => by have := nTo_le o kids k; omega) h2 (by omega) (fun t ht z W a b c => ih t ht z W a b c)

theorem has_in (gf : Nat) (q : Bool) (t : VT) (W : World) (B : Nat) (hc : W.cell? ⟨B, 0, none⟩ = some (.func (.func gf) #[] #[]))
    (hcall : ∀ W', Below W.heap.size W W' → Calls Tryz.prog 23 #[t.val, .func (.func gf) #[] #[]] W' fun e w' => e = .returned (.bool q) ∧ Below W'.heap.size W' w') :
    Calls Tryz.prog 45 #[t.val, .pointer (some ⟨B, 0, none⟩)] W fun e w' => e = .returned (.bool q) ∧ Below W.heap.size W w' := by
  have hc2 := fun o => alloc_cell hc o
  obtain ⟨o2, l2⟩ := t
  obtain ⟨kd2, g2, x2, b2, s2, la2, lc2, ka2, kc2, ks2⟩ := o2
  simp only [VT.val, VT.cells, VT.o_mk, VT.kids_mk] at hcall ⊢
  have HC := Lib.hid hcall
  clear hcall
  go_enter Tryz.func45, Tryz.ntmps45
  go_wp2_with fail
  ((with_reducible refine (HC.out _ (bal (Below.refl _ _) _)).mono ?_); rintro e w1 ⟨rfl, hb1⟩)
  go_wp2
  go_ret
  exact ⟨rfl, btr (bal (Below.refl _ _) _) hb1⟩
theorem has_yes (gf : Nat) (eg : ∀ args w, (callFunc gf args).run Tryz.prog w = .ok (.enter gf args) w) (kd : Int) (g : Bool) (x0 x1 x2 x3 b : Int) (s : ByteArray) (la : Option Addr) (n lc : Nat) (ka : Option Addr) (m kc : Nat) (w : World)
    (hs : ∀ W, Below w.heap.size w W → Calls Tryz.prog gf #[V10 kd g x0 x1 x2 x3 b s la n lc ka m kc] W fun e w' => e = .returned (.bool true) ∧ Below W.heap.size W w') :
    Calls Tryz.prog 23 #[V10 kd g x0 x1 x2 x3 b s la n lc ka m kc, .func (.func gf) #[] #[]] w fun e w' => e = .returned (.bool true) ∧ Below w.heap.size w w' := by
  have HS := Lib.hid hs
  clear hs
  go_enter Tryz.func23, Tryz.ntmps23
  go_wp2_with (go_at_fn gf; (with_reducible refine (HS.out _ (bal (bal (Below.refl _ _) _) _)).mono ?_); rintro e w1 ⟨rfl, hb1⟩)
  go_ret
  exact ⟨rfl, btr (bal (bal (Below.refl _ _) _) _) hb1⟩
theorem has_no (gf : Nat) (eg : ∀ args w, (callFunc gf args).run Tryz.prog w = .ok (.enter gf args) w) (kd : Int) (g : Bool) (x0 x1 x2 x3 b : Int) (s : ByteArray) (la : Option Addr) (n lc : Nat) (ka : Option Addr) (m kc : Nat) (q : Bool) (w : World)
    (hs : ∀ W, Below w.heap.size w W → Calls Tryz.prog gf #[V10 kd g x0 x1 x2 x3 b s la n lc ka m kc] W fun e w' => e = .returned (.bool false) ∧ Below W.heap.size W w')
    (hp : ∀ W, Below w.heap.size w W → W.cell? ⟨w.heap.size + 1, 0, none⟩ = some (.func (.func gf) #[] #[]) →
      Calls Tryz.prog 43 #[.slice la n lc, .func (.func 45) #[] #[.pointer (some ⟨w.heap.size + 1, 0, none⟩)]] W fun e w' => e = .returned (.bool q) ∧ Below W.heap.size W w') :
    Calls Tryz.prog 23 #[V10 kd g x0 x1 x2 x3 b s la n lc ka m kc, .func (.func gf) #[] #[]] w fun e w' => e = .returned (.bool q) ∧ Below w.heap.size w w' := by
  have HS := Lib.hid hs; have HP := Lib.hid hp
  have HCL : Hid (∀ (o : Obj) (t : TypeId), ((w.alloc o).alloc (.cells #[.func (.func gf) #[] #[]] t)).cell? ⟨w.heap.size + 1, 0, none⟩ = some (.func (.func gf) #[] #[])) := fun o t => vcell_new2 w o _ t
  clear hs hp
  go_enter Tryz.func23, Tryz.ntmps23
  go_wp2_with fail
  ((with_reducible refine (HS.out _ (bal (bal (Below.refl _ _) _) _)).mono ?_); rintro e w1 ⟨rfl, hb1⟩)
  have R := Row10.keep hb1 (Row10.alloc (Row10.new w (.int .i64 kd) (.bool g) (.int .u64 x0) (.int .u64 x1) (.int .u64 x2) (.int .u64 x3) (.int .u64 b) (.string s) (.slice la n lc) (.slice ka m kc)) _)
  obtain ⟨p0, p1, p2, p3, p4, p5, p6, p7, p8, p9⟩ := R.parts
  have HC1 := Lib.hid (cell_keep hb1 (HCL.out _ _))
  have HB1 := Lib.hid (btr (bal (bal (Below.refl w.heap.size w) _) _) hb1)
  clear p0 p1 p2 p3 p4 p5 p6 p7 p9 R hb1
  go_wp2_with fail
  ((with_reducible refine (HP.out _ HB1.out HC1.out).mono ?_); rintro e w2 ⟨rfl, hb2⟩)
  go_wp2
  go_ret
  exact ⟨rfl, btr HB1.out hb2⟩
/-- value.has, at whatever predicate by name that is told of all values that Q holds of. -/
theorem vhas (gf : Nat) (eg : ∀ args w, (callFunc gf args).run Tryz.prog w = .ok (.enter gf args) w) (p : VT → Bool) (Q : VT → World → Prop)
    (qk : ∀ (o : Own) (l : List VT) w, Q (.mk o l) w → ∀ t ∈ l, Q t w) (qb : ∀ T w w', Q T w → Below w.heap.size w w' → Q T w') (qi : ∀ T w, Q T w → T.In w)
    (hp : ∀ T w, Q T w → Calls Tryz.prog gf #[T.val] w fun e w' => e = .returned (.bool (p T)) ∧ Below w.heap.size w w') :
    ∀ (T : VT) w, Q T w → Calls Tryz.prog 23 #[T.val, .func (.func gf) #[] #[]] w fun e w' => e = .returned (.bool (hasT p T)) ∧ Below w.heap.size w w' := by
  intro T
  induction T using VT.ind with
  | h o kids ih =>
    intro w hQ
    obtain ⟨bb, off, hK⟩ := (qi _ _ hQ).kids'
    have hs := fun W (hb : Below w.heap.size w W) => hp (.mk o kids) W (qb _ _ _ hQ hb)
    rw [hasT_mk]
    cases hq : p (.mk o kids) with
    | true =>
      rw [hq] at hs
      exact has_yes gf eg _ _ _ _ _ _ _ _ _ _ _ _ _ _ w hs
    | false =>
      rw [hq] at hs
      refine has_no gf eg _ _ _ _ _ _ _ _ _ _ _ _ _ _ _ w hs (fun W hb hc => ?_)
      refine vcontains 45 _ (enters_of Tryz.func45 (by kernel_rfl) rfl) (hasT p) _ _ kids bb off W (hK.keep hb) (fun t ht W' hb' => ?_)
      exact has_in gf _ t W' _ (cell_keep hb' hc) (fun W2 hb2 => ih t ht W2 (qb _ _ _ (qb _ _ _ (qb _ _ _ (qk o kids w hQ t ht) hb) hb') hb2))
end Go.Proofs.YtocffoemimghhaaGreatDoor
