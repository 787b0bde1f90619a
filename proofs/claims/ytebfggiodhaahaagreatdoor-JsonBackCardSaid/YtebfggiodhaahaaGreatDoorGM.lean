/-
  ValHas ValLeft ValOwn ValMay, one behind the other: a claim holds at most 60 files.
-/
import Derived.Test.YtebfggiodhaahaaGreatDoorGX
import Derived.Test.YtebfggiodhaahaaGreatDoorGW
import Derived.Test.YtebfggiodhaahaaGreatDoorGF
import Derived.Test.YtebfggiodhaahaaGreatDoorGE
section
namespace Go.Proofs.YtebfggiodhaahaaGreatDoor
open Go.RowKit Go.Shelf

theorem alloc_cell {W : World} {B i : Nat} {v : Value} (h : W.cell? ⟨B, i, none⟩ = some v) (o : Obj) : (W.alloc o).cell? ⟨B, i, none⟩ = some v :=
  (World.cell?_alloc_lt W o ⟨B, i, none⟩ (cell_lt h)).trans h

theorem vcell_new2 (w : World) (o : Obj) (v : Value) (t : TypeId) : ((w.alloc o).alloc (.cells #[v] t)).cell? ⟨w.heap.size + 1, 0, none⟩ = some v := by
  have h := heap_alloc_new (w.alloc o) (.cells #[v] t)
  have hs : (w.alloc o).heap.size = w.heap.size + 1 := by simp
  rw [hs] at h
  exact cell_of_row _ _ 0 _ _ _ h
theorem deep_in (n : Nat) (hn : n ≤ 1000) (ih : ∀ (T : VT) (w : World), T.In w → Calls Tryz.prog 19 #[T.val, .int .i64 (n : Nat)] w fun e w' => e = .returned (.bool (deepT n T)) ∧ Below w.heap.size w w')
    (t : VT) (W : World) (B : Nat) (hc : W.cell? ⟨B, 0, none⟩ = some (.int .i64 ((n : Int) + 1))) (hI : t.In W) :
    Calls Tryz.prog 44 #[t.val, .pointer (some ⟨B, 0, none⟩)] W fun e w' => e = .returned (.bool (deepT n t)) ∧ Below W.heap.size W w' := by
  have hc2 := fun o => alloc_cell hc o
  have HI := Lib.hid hI; have IH := Lib.hid ih
  clear hI ih
  have hcall := IH.out t
  obtain ⟨o2, l2⟩ := t
  obtain ⟨kd2, g2, x2, b2, s2, la2, lc2, ka2, kc2, ks2⟩ := o2
  simp only [VT.val, VT.cells, VT.o_mk, VT.kids_mk] at hcall ⊢
  have HC := Lib.hid hcall
  clear hcall
  go_enter Tryz.func44, Tryz.ntmps44
  go_wp2_with fail
  ((with_reducible refine (HC.out _ (HI.out.keep (bal (Below.refl _ _) _))).mono ?_); rintro e w1 ⟨rfl, hb1⟩)
  go_wp2
  go_ret
  exact ⟨rfl, btr (bal (Below.refl _ _) _) hb1⟩

theorem deep_zero (T : VT) (w : World) : Calls Tryz.prog 19 #[T.val, .int .i64 0] w fun e w' => e = .returned (.bool true) ∧ Below w.heap.size w w' := by
  obtain ⟨o2, l2⟩ := T
  obtain ⟨kd2, g2, x2, b2, s2, la2, lc2, ka2, kc2, ks2⟩ := o2
  simp only [VT.val, VT.cells, VT.o_mk, VT.kids_mk]
  go_enter Tryz.func19, Tryz.ntmps19
  go_wp2
  go_ret
  exact ⟨rfl, bal (bal (Below.refl _ _) _) _⟩
theorem deep_more (n : Nat) (hn : n ≤ 1000) (kd : Int) (g : Bool) (x0 x1 x2 x3 b : Int) (s : ByteArray) (la : Option Addr) (lc : Nat) (ka : Option Addr) (m kc : Nat) (kids : List VT) (q : Bool) (w : World)
    (hp : ∀ W, Below w.heap.size w W → W.cell? ⟨w.heap.size + 1, 0, none⟩ = some (.int .i64 ((n : Int) + 1)) →
      Calls Tryz.prog 43 #[.slice la kids.length lc, .func (.func 44) #[] #[.pointer (some ⟨w.heap.size + 1, 0, none⟩)]] W fun e w' => e = .returned (.bool q) ∧ Below W.heap.size W w') :
    Calls Tryz.prog 19 #[V10 kd g x0 x1 x2 x3 b s la kids.length lc ka m kc, .int .i64 ((n : Int) + 1)] w fun e w' => e = .returned (.bool q) ∧ Below w.heap.size w w' := by
  have h0 : (((n : Int) + 1) == 0) = false := by rw [beq_eq_false_iff_ne]; omega
  have HP := Lib.hid hp
  have HCL : Hid (∀ o : Obj, ((w.alloc o).alloc (.cells #[.int .i64 ((n : Int) + 1)] 3)).cell? ⟨w.heap.size + 1, 0, none⟩ = some (.int .i64 ((n : Int) + 1))) := fun o => vcell_new2 w o _ _
  clear hp
  go_enter Tryz.func19, Tryz.ntmps19
  go_wp2_with fail
  ((with_reducible refine (HP.out _ (bal (bal (Below.refl _ _) _) _) (HCL.out _)).mono ?_); rintro e w1 ⟨rfl, hb1⟩)
  go_wp2
  go_ret
  exact ⟨rfl, btr (bal (bal (Below.refl _ _) _) _) hb1⟩
/-- value.deeper. -/
theorem vdeeper : ∀ (n : Nat), n ≤ 1000 → ∀ (T : VT) (w : World), T.In w → Calls Tryz.prog 19 #[T.val, .int .i64 (n : Nat)] w fun e w' => e = .returned (.bool (deepT n T)) ∧ Below w.heap.size w w'
  | 0, _, T, w, _ => deep_zero T w
  | n + 1, hn, T, w, hI => by
    have ih := vdeeper n (by omega)
    obtain ⟨o, kids⟩ := T
    obtain ⟨bb, off, hK⟩ := hI.kids'
    refine deep_more n (by omega) _ _ _ _ _ _ _ _ _ _ _ _ _ kids _ w (fun W hb hc => ?_)
    refine vcontains 44 _ (enters_of Tryz.func44 (by kernel_rfl) rfl) (deepT n) _ _ kids bb off W (hK.keep hb) (fun t ht W' hb' => ?_)
    obtain ⟨i, hi⟩ := List.getElem?_of_mem ht
    exact deep_in n (by omega) ih t W' _ (cell_keep hb' hc) (((hK.ins i t hi).keep hb).keep hb')
end Go.Proofs.YtebfggiodhaahaaGreatDoor
end
section
namespace Go.Proofs.YtebfggiodhaahaaGreatDoor
open Go.RowKit Go.Shelf

theorem vleft_core (kd : Int) (g : Bool) (x0 x1 x2 x3 b : Int) (s : ByteArray) (la : Option Addr) (lc : Nat) (ka : Option Addr) (m kc : Nat) (kids : List VT) (bb off : Nat) (N R : Int) (w : World) (hK : Kids w la kids bb off)
    (hR : R = N - 1 - (nTo kids kids.length : Nat)) (hle : ∀ k, (nTo kids k : Int) ≤ N - 1) (hd : N ≤ 1000000) (hd0 : 1 ≤ N)
    (ih : ∀ t ∈ kids, ∀ (z : Int) W, (t.nodes : Int) ≤ z → z ≤ 1000000 → t.In W → Calls Tryz.prog 20 #[t.val, .int .i64 z] W fun e w' => e = .returned (.int .i64 (z - (t.nodes : Nat))) ∧ Below W.heap.size W w') :
    Calls Tryz.prog 20 #[V10 kd g x0 x1 x2 x3 b s la kids.length lc ka m kc, .int .i64 N] w fun e w' => e = .returned (.int .i64 R) ∧ Below w.heap.size w w' := by
  have hn := hK.len
  have HK := Lib.hid hK; have HI := Lib.hid ih; have HD := Lib.hid hR; have HL := Lib.hid hle
  clear hK ih hR hle
  go_enter Tryz.func20, Tryz.ntmps20
  go_wp2
  go_loopw [1, 12] (fun gr i wr => ∃ (k : Nat) (z : Int), k ≤ kids.length ∧ i = .int .i64 k ∧ gr = .int .i64 z ∧ Hid (z = N - 1 - (nTo kids k : Nat)) ∧ Hid (Below w.heap.size w wr)) (fun _ i _ => kids.length - (intOf i).toNat)
  case atStart => exact ⟨0, N - 1, Nat.zero_le _, rfl, rfl, (show Hid _ from by show _ = _; rw [nTo_zero]; simp), bal (Below.refl _ _) _⟩
  case round =>
    obtain ⟨k, z, hk, rfl, rfl, HZ, BW⟩ := hrel
    by_cases hlt : k < kids.length
    · obtain ⟨t, ht, hm⟩ := kid_at hlt
      have hr := (HK.out.cells k t ht).keep BW.out
      obtain rfl : la = some ⟨bb, off, none⟩ := HK.out.la (by omega)
      have hti := (HK.out.ins k t ht).keep BW.out
      have hnx := nTo_next ht
      have hl0 := HL.out k
      have hl1 := HL.out (k + 1)
      have hz := HZ.out
      have hz0 : 0 ≤ z := by omega
      have hz1 : z ≤ 1000000 := by omega
      have hz2 : (t.nodes : Int) ≤ z := by omega
      have HEND : Hid (z - (t.nodes : Nat) = N - 1 - (nTo kids (k + 1) : Nat)) := by show _ = _; omega
      have hcall := HI.out t hm z
      obtain ⟨o2, l2⟩ := t
      obtain ⟨kd2, g2, x2, b2, s2, la2, lc2, ka2, kc2, ks2⟩ := o2
      simp only [VT.val, VT.cells, VT.o_mk, VT.kids_mk] at hcall
      obtain ⟨c0, c1, c2, c3, c4, c5, c6, c7, c8, c9⟩ := hr.ten
      clear hr hz hl0 hl1
      have HTI := Lib.hid hti; have HCALL := Lib.hid hcall; have HNX := Lib.hid hnx; have HHT := Lib.hid ht; have HZ2 := Lib.hid hz2
      clear hti hcall hnx ht hz2
      go_wp2_with fail
      ((with_reducible refine (HCALL.out _ HZ2.out hz1 (HTI.out.keep (bal (Below.refl _ _) _))).mono ?_); rintro e w1 ⟨rfl, hb1⟩)
      have HB1 := Lib.hid hb1
      clear hb1
      go_wp2
      go_roundw
      case rel => exact ⟨k + 1, _, by omega, by go_num, rfl, HEND, btr (bal BW.out _) HB1.out⟩
      case measure => simp [intOf]; omega
    · have hge : ¬ (k : Int) < (kids.length : Int) := by omega
      have HF : Hid (z = R) := by show _ = _; have := HD.out; have := HZ.out; have hkk : k = kids.length := by omega
                                  subst hkk; omega
      go_wp2
      go_ret
      exact ⟨ret_int HF.out, BW.out⟩
/-- value.left, where there are nodes enough. -/
theorem vleft : ∀ (T : VT) (z : Int) w, (T.nodes : Int) ≤ z → z ≤ 1000000 → T.In w → Calls Tryz.prog 20 #[T.val, .int .i64 z] w fun e w' => e = .returned (.int .i64 (z - (T.nodes : Nat))) ∧ Below w.heap.size w w' := by
  intro T
  induction T using VT.ind with
  | h o kids ih =>
    intro z w h1 h2 hI
    obtain ⟨bb, off, hK⟩ := hI.kids'
    have hp := VT.nodes_pos (.mk o kids)
    exact vleft_core _ _ _ _ _ _ _ _ _ _ _ _ _ kids bb off z _ w hK (by rw [nTo_all o kids]; omega) (fun k => by have := nTo_le o kids k; omega) h2 (by omega) (fun t ht z W a b c => ih t ht z W a b c)

theorem has_in (gf : Nat) (q : Bool) (t : VT) (W : World) (B : Nat) (hc : W.cell? ⟨B, 0, none⟩ = some (.func (.func gf) #[] #[]))
    (hcall : ∀ W', Below W.heap.size W W' → Calls Tryz.prog 21 #[t.val, .func (.func gf) #[] #[]] W' fun e w' => e = .returned (.bool q) ∧ Below W'.heap.size W' w') :
    Calls Tryz.prog 45 #[t.val, .pointer (some ⟨B, 0, none⟩)] W fun e w' => e = .returned (.bool q) ∧ Below W.heap.size W w' := by
  have hc2 := fun o => alloc_cell hc o
  obtain ⟨o2, l2⟩ := t
  obtain ⟨kd2, g2, x2, b2, s2, la2, lc2, ka2, kc2, ks2⟩ := o2
  simp only [VT.val, VT.cells, VT.o_mk, VT.kids_mk] at hcall ⊢
  have HC := Lib.hid hcall
  clear hcall
  go_enter Tryz.func45, Tryz.ntmps45
  go_wp2_with fail
  ((with_reducible refine (HC.out _ (bal (Below.refl _ _) _)).mono ?_); rintro e w1 ⟨rfl, hb1⟩)
  go_wp2
  go_ret
  exact ⟨rfl, btr (bal (Below.refl _ _) _) hb1⟩
theorem has_yes (gf : Nat) (eg : ∀ args w, (callFunc gf args).run Tryz.prog w = .ok (.enter gf args) w) (kd : Int) (g : Bool) (x0 x1 x2 x3 b : Int) (s : ByteArray) (la : Option Addr) (n lc : Nat) (ka : Option Addr) (m kc : Nat) (w : World)
    (hs : ∀ W, Below w.heap.size w W → Calls Tryz.prog gf #[V10 kd g x0 x1 x2 x3 b s la n lc ka m kc] W fun e w' => e = .returned (.bool true) ∧ Below W.heap.size W w') :
    Calls Tryz.prog 21 #[V10 kd g x0 x1 x2 x3 b s la n lc ka m kc, .func (.func gf) #[] #[]] w fun e w' => e = .returned (.bool true) ∧ Below w.heap.size w w' := by
  have HS := Lib.hid hs
  clear hs
  go_enter Tryz.func21, Tryz.ntmps21
  go_wp2_with (go_at_fn gf; (with_reducible refine (HS.out _ (bal (bal (Below.refl _ _) _) _)).mono ?_); rintro e w1 ⟨rfl, hb1⟩)
  go_ret
  exact ⟨rfl, btr (bal (bal (Below.refl _ _) _) _) hb1⟩
theorem has_no (gf : Nat) (eg : ∀ args w, (callFunc gf args).run Tryz.prog w = .ok (.enter gf args) w) (kd : Int) (g : Bool) (x0 x1 x2 x3 b : Int) (s : ByteArray) (la : Option Addr) (n lc : Nat) (ka : Option Addr) (m kc : Nat) (q : Bool) (w : World)
    (hs : ∀ W, Below w.heap.size w W → Calls Tryz.prog gf #[V10 kd g x0 x1 x2 x3 b s la n lc ka m kc] W fun e w' => e = .returned (.bool false) ∧ Below W.heap.size W w')
    (hp : ∀ W, Below w.heap.size w W → W.cell? ⟨w.heap.size + 1, 0, none⟩ = some (.func (.func gf) #[] #[]) →
      Calls Tryz.prog 43 #[.slice la n lc, .func (.func 45) #[] #[.pointer (some ⟨w.heap.size + 1, 0, none⟩)]] W fun e w' => e = .returned (.bool q) ∧ Below W.heap.size W w') :
    Calls Tryz.prog 21 #[V10 kd g x0 x1 x2 x3 b s la n lc ka m kc, .func (.func gf) #[] #[]] w fun e w' => e = .returned (.bool q) ∧ Below w.heap.size w w' := by
  have HS := Lib.hid hs; have HP := Lib.hid hp
  have HCL : Hid (∀ (o : Obj) (t : TypeId), ((w.alloc o).alloc (.cells #[.func (.func gf) #[] #[]] t)).cell? ⟨w.heap.size + 1, 0, none⟩ = some (.func (.func gf) #[] #[])) := fun o t => vcell_new2 w o _ t
  clear hs hp
  go_enter Tryz.func21, Tryz.ntmps21
  go_wp2_with fail
  ((with_reducible refine (HS.out _ (bal (bal (Below.refl _ _) _) _)).mono ?_); rintro e w1 ⟨rfl, hb1⟩)
  have R := Row10.keep hb1 (Row10.alloc (Row10.new w (.int .i64 kd) (.bool g) (.int .u64 x0) (.int .u64 x1) (.int .u64 x2) (.int .u64 x3) (.int .u64 b) (.string s) (.slice la n lc) (.slice ka m kc)) _)
  obtain ⟨p0, p1, p2, p3, p4, p5, p6, p7, p8, p9⟩ := R.parts
  have HC1 := Lib.hid (cell_keep hb1 (HCL.out _ _))
  have HB1 := Lib.hid (btr (bal (bal (Below.refl w.heap.size w) _) _) hb1)
  clear p0 p1 p2 p3 p4 p5 p6 p7 p9 R hb1
  go_wp2_with fail
  ((with_reducible refine (HP.out _ HB1.out HC1.out).mono ?_); rintro e w2 ⟨rfl, hb2⟩)
  go_wp2
  go_ret
  exact ⟨rfl, btr HB1.out hb2⟩
/-- value.has, at whatever predicate by name that is told of all values that Q holds of. -/
theorem vhas (gf : Nat) (eg : ∀ args w, (callFunc gf args).run Tryz.prog w = .ok (.enter gf args) w) (p : VT → Bool) (Q : VT → World → Prop)
    (qk : ∀ (o : Own) (l : List VT) w, Q (.mk o l) w → ∀ t ∈ l, Q t w) (qb : ∀ T w w', Q T w → Below w.heap.size w w' → Q T w') (qi : ∀ T w, Q T w → T.In w)
    (hp : ∀ T w, Q T w → Calls Tryz.prog gf #[T.val] w fun e w' => e = .returned (.bool (p T)) ∧ Below w.heap.size w w') :
    ∀ (T : VT) w, Q T w → Calls Tryz.prog 21 #[T.val, .func (.func gf) #[] #[]] w fun e w' => e = .returned (.bool (hasT p T)) ∧ Below w.heap.size w w' := by
  intro T
  induction T using VT.ind with
  | h o kids ih =>
    intro w hQ
    obtain ⟨bb, off, hK⟩ := (qi _ _ hQ).kids'
    have hs := fun W (hb : Below w.heap.size w W) => hp (.mk o kids) W (qb _ _ _ hQ hb)
    rw [hasT_mk]
    cases hq : p (.mk o kids) with
    | true =>
      rw [hq] at hs
      exact has_yes gf eg _ _ _ _ _ _ _ _ _ _ _ _ _ _ w hs
    | false =>
      rw [hq] at hs
      refine has_no gf eg _ _ _ _ _ _ _ _ _ _ _ _ _ _ _ w hs (fun W hb hc => ?_)
      refine vcontains 45 _ (enters_of Tryz.func45 (by kernel_rfl) rfl) (hasT p) _ _ kids bb off W (hK.keep hb) (fun t ht W' hb' => ?_)
      exact has_in gf _ t W' _ (cell_keep hb' hc) (fun W2 hb2 => ih t ht W2 (qb _ _ _ (qb _ _ _ (qb _ _ _ (qk o kids w hQ t ht) hb) hb') hb2))
end Go.Proofs.YtebfggiodhaahaaGreatDoor
end
section
namespace Go.Proofs.YtebfggiodhaahaaGreatDoor
open Go.RowKit Go.Shelf

/-- Are all parts that the kind does not name zero? -/
def outB (o : Own) (n : Nat) : Bool :=
  let D := eqO o.kind o.g (lb 0 o.x) (lb 1 o.x) (lb 2 o.x) (lb 3 o.x) o.bits o.text (o.keys.length : Int) (n : Int) o.kind
  if o.kind = 2 ∨ o.kind = 4 then D false 0 0 0 0 o.bits ⟨#[]⟩ ((0 : Nat) : Int) ((0 : Nat) : Int)
  else if o.kind = 3 then D o.g (lb 0 o.x) (lb 1 o.x) (lb 2 o.x) (lb 3 o.x) 0 ⟨#[]⟩ ((0 : Nat) : Int) ((0 : Nat) : Int)
  else if o.kind = 5 ∨ o.kind = 6 then D false 0 0 0 0 0 o.text ((0 : Nat) : Int) ((0 : Nat) : Int)
  else if o.kind = 7 then D false 0 0 0 0 0 ⟨#[]⟩ ((0 : Nat) : Int) (n : Int)
  else if o.kind = 8 then D false 0 0 0 0 0 ⟨#[]⟩ (o.keys.length : Int) (n : Int)
  else D false 0 0 0 0 0 ⟨#[]⟩ ((0 : Nat) : Int) ((0 : Nat) : Int)
/-- May a whole number be? -/
def okI (g : Bool) (x : Nat) : Bool := !eq5 g (lb 0 x) (lb 1 x) (lb 2 x) (lb 3 x) true 0 0 0 0
/-- Is what the kind names such as it may be? -/
def restB (o : Own) (n : Nat) : Bool :=
  if o.kind = 1 ∨ o.kind = 6 ∨ o.kind = 7 then true
  else if o.kind = 2 then !decide (1 < o.bits)
  else if o.kind = 3 then okI o.g o.x
  else if o.kind = 4 then mayF o.bits.toNat
  else if o.kind = 5 then uval o.text.data.toList
  else if o.kind = 8 then decide (o.keys.length = n) && namesB o.keys
  else false
/-- Is what is its own such as it may be? -/
def ownB (o : Own) (n : Nat) : Bool := outB o n && restB o n

/-- Of all values in a value. -/
inductive VT.Every (p : Own → Prop) : VT → Prop
  | mk (o : Own) (kids : List VT) (h : p o) (hk : ∀ (t : VT), t ∈ kids → VT.Every p t) : VT.Every p (.mk o kids)
theorem VT.Every.own {p : Own → Prop} {o : Own} {l : List VT} (h : (VT.mk o l).Every p) : p o := by cases h; assumption
theorem VT.Every.mem {p : Own → Prop} {o : Own} {l : List VT} (h : (VT.mk o l).Every p) {t : VT} (ht : t ∈ l) : t.Every p := by cases h; rename_i a b; exact b t ht
/-- Small texts. -/
def SmallO (o : Own) : Prop := o.text.size ≤ 100000 ∧ ∀ s ∈ o.keys, s.size ≤ 100000
/-- A small value in memory, beside the table of package math/bits. -/
structure Qv (T : VT) (w : World) : Prop where
  ins : T.In w
  tb : Tb w
  small : T.Every SmallO
theorem Qv.kid {o : Own} {l : List VT} {w : World} (h : Qv (.mk o l) w) (t : VT) (ht : t ∈ l) : Qv t w := ⟨h.ins.mem ht, h.tb, h.small.mem ht⟩
theorem Qv.keep {T : VT} {w w' : World} (h : Qv T w) (hb : Below w.heap.size w w') : Qv T w' := ⟨h.ins.keep hb, tb_on h.tb hb, h.small⟩

theorem wmay_any (g : Bool) (x : Nat) (W : World) : Calls Tryz.prog 50 #[.agg #[.bool g, .int .u64 (lb 0 x), .int .u64 (lb 1 x), .int .u64 (lb 2 x), .int .u64 (lb 3 x)]] W fun e w' => e = .returned (.bool (okI g x)) ∧ Below W.heap.size W w' := by
  refine (may_core g _ _ _ _ W).mono ?_
  rintro e w' ⟨rfl, o, rfl⟩
  exact ⟨rfl, bal (Below.refl _ _) _⟩
theorem val_eq (o : Own) (l : List VT) : (VT.mk o l).val = V10 o.kind o.g (lb 0 o.x) (lb 1 o.x) (lb 2 o.x) (lb 3 o.x) o.bits o.text o.la l.length o.lcap o.ka o.keys.length o.kcap := rfl

/-- value.wrong. -/
theorem wrong_any (T : VT) (w : World) (hQ : Qv T w) : Calls Tryz.prog 23 #[T.val] w fun e w' => e = .returned (.bool (!ownB T.o T.kids.length)) ∧ Below w.heap.size w w' := by
  obtain ⟨o, kids⟩ := T
  obtain ⟨kb, koff, hK⟩ := hQ.ins.keys'
  obtain ⟨hs, hks⟩ := hQ.small.own
  have hw := hQ.ins.wf
  obtain ⟨_, _, ⟨hb0, hb1⟩, _, _⟩ := hw
  rw [val_eq]
  obtain ⟨kd, g, x, b, s, la, lc, ka, kc, ks⟩ := o
  simp only [VT.o_mk, VT.kids_mk] at hs hks hK hb0 hb1 ⊢
  have out : ∀ (D : Bool), outB ⟨kd, g, x, b, s, la, lc, ka, kc, ks⟩ kids.length = D → ownB ⟨kd, g, x, b, s, la, lc, ka, kc, ks⟩ kids.length = (D && restB ⟨kd, g, x, b, s, la, lc, ka, kc, ks⟩ kids.length) := fun D h => by unfold ownB; rw [h]
  by_cases h1 : kd = 1
  · subst h1
    cases hD : outB ⟨1, g, x, b, s, la, lc, ka, kc, ks⟩ kids.length with
    | false => rw [out _ hD]; exact wrong_diff 1 _ _ _ _ _ _ _ _ _ _ _ _ _ _ _ _ _ _ _ _ _ _ _ _ _ _ w (bare_k1 _ _ _ _ _ _ _ _ _ _ _ _ _) hD
    | true => rw [out _ hD]; exact wrong_k1 _ _ _ _ _ _ _ _ _ _ _ _ _ _ _ _ _ _ _ _ _ _ _ _ _ _ w (bare_k1 _ _ _ _ _ _ _ _ _ _ _ _ _) hD
  by_cases h2 : kd = 2
  · subst h2
    cases hD : outB ⟨2, g, x, b, s, la, lc, ka, kc, ks⟩ kids.length with
    | false => rw [out _ hD]; exact wrong_diff 2 _ _ _ _ _ _ _ _ _ _ _ _ _ _ _ _ _ _ _ _ _ _ _ _ _ _ w (bare_k2 _ _ _ _ _ _ _ _ _ _ _ _ _) hD
    | true =>
      rw [out _ hD, show (!(true && restB ⟨2, g, x, b, s, la, lc, ka, kc, ks⟩ kids.length)) = decide (1 < b) by simp [restB]]
      exact wrong_k2 _ _ _ _ _ _ _ _ _ _ _ _ _ _ _ _ _ _ _ _ _ _ _ _ _ _ w (bare_k2 _ _ _ _ _ _ _ _ _ _ _ _ _) hD
  by_cases h3 : kd = 3
  · subst h3
    cases hD : outB ⟨3, g, x, b, s, la, lc, ka, kc, ks⟩ kids.length with
    | false => rw [out _ hD]; exact wrong_diff 3 _ _ _ _ _ _ _ _ _ _ _ _ _ _ _ _ _ _ _ _ _ _ _ _ _ _ w (bare_k3 _ _ _ _ _ _ _ _ _ _ _ _ _) hD
    | true => rw [out _ hD]; exact wrong_k3 _ _ _ _ _ _ _ _ _ _ _ _ _ _ _ _ _ _ _ _ _ _ _ _ _ _ w (bare_k3 _ _ _ _ _ _ _ _ _ _ _ _ _) hD _ (fun W _ => wmay_any g x W)
  by_cases h4 : kd = 4
  · subst h4
    have e : b = ((b.toNat : Nat) : Int) := by omega
    cases hD : outB ⟨4, g, x, b, s, la, lc, ka, kc, ks⟩ kids.length with
    | false => rw [out _ hD]; exact wrong_diff 4 _ _ _ _ _ _ _ _ _ _ _ _ _ _ _ _ _ _ _ _ _ _ _ _ _ _ w (bare_k4 _ _ _ _ _ _ _ _ _ _ _ _ _) hD
    | true =>
      rw [out _ hD]
      exact wrong_k4 _ _ _ _ _ _ _ _ _ _ _ _ _ _ _ _ _ _ _ _ _ _ _ _ _ _ w (bare_k4 _ _ _ _ _ _ _ _ _ _ _ _ _) hD _ (fun W hb => by
        have := fmay_any b.toNat (by omega) W (tb_on hQ.tb hb)
        rw [← e] at this
        exact this)
  by_cases h5 : kd = 5
  · subst h5
    cases hD : outB ⟨5, g, x, b, s, la, lc, ka, kc, ks⟩ kids.length with
    | false => rw [out _ hD]; exact wrong_diff 5 _ _ _ _ _ _ _ _ _ _ _ _ _ _ _ _ _ _ _ _ _ _ _ _ _ _ w (bare_k5 _ _ _ _ _ _ _ _ _ _ _ _ _) hD
    | true =>
      rw [out _ hD]
      exact wrong_k5 _ _ _ _ _ _ _ _ _ _ _ _ _ _ _ _ _ _ _ _ _ _ _ _ _ _ w (bare_k5 _ _ _ _ _ _ _ _ _ _ _ _ _) hD _ (fun W _ => (valid_any s (by omega) W).mono fun _ _ ⟨a, c⟩ => ⟨a, by rw [c]; exact Below.refl _ _⟩)
  by_cases h6 : kd = 6
  · subst h6
    cases hD : outB ⟨6, g, x, b, s, la, lc, ka, kc, ks⟩ kids.length with
    | false => rw [out _ hD]; exact wrong_diff 6 _ _ _ _ _ _ _ _ _ _ _ _ _ _ _ _ _ _ _ _ _ _ _ _ _ _ w (bare_k6 _ _ _ _ _ _ _ _ _ _ _ _ _) hD
    | true => rw [out _ hD]; exact wrong_k6 _ _ _ _ _ _ _ _ _ _ _ _ _ _ _ _ _ _ _ _ _ _ _ _ _ _ w (bare_k6 _ _ _ _ _ _ _ _ _ _ _ _ _) hD
  by_cases h7 : kd = 7
  · subst h7
    cases hD : outB ⟨7, g, x, b, s, la, lc, ka, kc, ks⟩ kids.length with
    | false => rw [out _ hD]; exact wrong_diff 7 _ _ _ _ _ _ _ _ _ _ _ _ _ _ _ _ _ _ _ _ _ _ _ _ _ _ w (bare_k7 _ _ _ _ _ _ _ _ _ _ _ _ _) hD
    | true => rw [out _ hD]; exact wrong_k7 _ _ _ _ _ _ _ _ _ _ _ _ _ _ _ _ _ _ _ _ _ _ _ _ _ _ w (bare_k7 _ _ _ _ _ _ _ _ _ _ _ _ _) hD
  by_cases h8 : kd = 8
  · subst h8
    cases hD : outB ⟨8, g, x, b, s, la, lc, ka, kc, ks⟩ kids.length with
    | false => rw [out _ hD]; exact wrong_diff 8 _ _ _ _ _ _ _ _ _ _ _ _ _ _ _ _ _ _ _ _ _ _ _ _ _ _ w (bare_k8 _ _ _ _ _ _ _ _ _ _ _ _ _) hD
    | true =>
      rw [out _ hD]
      by_cases hmn : ks.length = kids.length
      · rw [show (!(true && restB ⟨8, g, x, b, s, la, lc, ka, kc, ks⟩ kids.length)) = !namesB ks by simp [restB, hmn]]
        exact wrong_k8 _ _ _ _ _ _ _ _ _ _ _ _ _ _ _ _ _ _ _ _ _ _ _ _ _ _ w (bare_k8 _ _ _ _ _ _ _ _ _ _ _ _ _) hD hmn _ (fun W hb => names_any ka kc ks kb koff W (hK.keep hb) (fun t ht => by have := hks t ht; omega))
      · rw [show (!(true && restB ⟨8, g, x, b, s, la, lc, ka, kc, ks⟩ kids.length)) = true by simp [restB, hmn]]
        exact wrong_k8n _ _ _ _ _ _ _ _ _ _ _ _ _ _ _ _ _ _ _ _ _ _ _ _ _ _ w (bare_k8 _ _ _ _ _ _ _ _ _ _ _ _ _) hD hmn
  have b1 := beq_eq_false_iff_ne.2 h1; have b2 := beq_eq_false_iff_ne.2 h2; have b3 := beq_eq_false_iff_ne.2 h3; have b4 := beq_eq_false_iff_ne.2 h4
  have b5 := beq_eq_false_iff_ne.2 h5; have b6 := beq_eq_false_iff_ne.2 h6; have b7 := beq_eq_false_iff_ne.2 h7; have b8 := beq_eq_false_iff_ne.2 h8
  have hO : outB ⟨kd, g, x, b, s, la, lc, ka, kc, ks⟩ kids.length = eqO kd g (lb 0 x) (lb 1 x) (lb 2 x) (lb 3 x) b s (ks.length : Int) (kids.length : Int) kd false 0 0 0 0 0 ⟨#[]⟩ ((0 : Nat) : Int) ((0 : Nat) : Int) := by
    unfold outB
    simp only
    rw [if_neg (by omega), if_neg h3, if_neg (by omega), if_neg h7, if_neg h8]
  have hR : restB ⟨kd, g, x, b, s, la, lc, ka, kc, ks⟩ kids.length = false := by
    unfold restB
    simp only
    rw [if_neg (by omega), if_neg h2, if_neg h3, if_neg h4, if_neg h5, if_neg h8]
  rw [show (!ownB ⟨kd, g, x, b, s, la, lc, ka, kc, ks⟩ kids.length) = true by unfold ownB; rw [hR]; simp]
  cases hD : outB ⟨kd, g, x, b, s, la, lc, ka, kc, ks⟩ kids.length with
  | false => exact wrong_diff kd _ _ _ _ _ _ _ _ _ _ _ _ _ _ _ _ _ _ _ _ _ _ _ _ _ _ w (bare_none kd b2 b3 b4 b5 b6 b7 b8 _ _ _ _ _ _ _ _ _ _ _ _ _) (hO.symm.trans hD)
  | true => exact wrong_none kd b1 b2 b3 b4 b5 b6 b7 b8 _ _ _ _ _ _ _ _ _ _ _ _ _ _ _ _ _ _ _ _ _ _ _ _ _ _ w (bare_none kd b2 b3 b4 b5 b6 b7 b8 _ _ _ _ _ _ _ _ _ _ _ _ _) (hO.symm.trans hD)
end Go.Proofs.YtebfggiodhaahaaGreatDoor
end
section
namespace Go.Proofs.YtebfggiodhaahaaGreatDoor
open Go.RowKit Go.Shelf

def overT (T : VT) : Bool := overB T.o T.kids.length
def wrongT (T : VT) : Bool := !ownB T.o T.kids.length
/-- What value.May answers, of what has nodes few enough. -/
def mayN (T : VT) : Int := if 16 < T.depth then 4 else if hasT overT T then 8 else if hasT wrongT T then 1 else 0

section
variable (kd : Int) (g : Bool) (x0 x1 x2 x3 b : Int) (s : ByteArray) (la : Option Addr) (n lc : Nat) (ka : Option Addr) (m kc : Nat) (w : World)
theorem vmay_deep (k1 : ∀ W, Below w.heap.size w W → Calls Tryz.prog 19 #[V10 kd g x0 x1 x2 x3 b s la n lc ka m kc, .int .i64 16] W fun e w' => e = .returned (.bool true) ∧ Below W.heap.size W w') :
    Calls Tryz.prog 12 #[V10 kd g x0 x1 x2 x3 b s la n lc ka m kc] w fun e w' => e = .returned (.int .i64 4) ∧ Below w.heap.size w w' := by
  have K1 := Lib.hid k1; clear k1
  go_enter Tryz.func12, Tryz.ntmps12
  go_wp2_with fail
  ((with_reducible refine (K1.out _ (bal (Below.refl _ _) _)).mono ?_); rintro e w1 ⟨rfl, hb1⟩)
  go_wp2
  go_ret
  exact ⟨rfl, btr (bal (Below.refl _ _) _) hb1⟩
theorem vmay_core (z : Int) (hz : 0 ≤ z) (o r : Bool) (R : Int) (hR : R = if o then 8 else if r then 1 else 0)
    (k1 : ∀ W, Below w.heap.size w W → Calls Tryz.prog 19 #[V10 kd g x0 x1 x2 x3 b s la n lc ka m kc, .int .i64 16] W fun e w' => e = .returned (.bool false) ∧ Below W.heap.size W w')
    (k2 : ∀ W, Below w.heap.size w W → Calls Tryz.prog 20 #[V10 kd g x0 x1 x2 x3 b s la n lc ka m kc, .int .i64 10000] W fun e w' => e = .returned (.int .i64 z) ∧ Below W.heap.size W w')
    (k3 : ∀ W, Below w.heap.size w W → Calls Tryz.prog 21 #[V10 kd g x0 x1 x2 x3 b s la n lc ka m kc, .func (.func 22) #[] #[]] W fun e w' => e = .returned (.bool o) ∧ Below W.heap.size W w')
    (k4 : ∀ W, Below w.heap.size w W → Calls Tryz.prog 21 #[V10 kd g x0 x1 x2 x3 b s la n lc ka m kc, .func (.func 23) #[] #[]] W fun e w' => e = .returned (.bool r) ∧ Below W.heap.size W w') :
    Calls Tryz.prog 12 #[V10 kd g x0 x1 x2 x3 b s la n lc ka m kc] w fun e w' => e = .returned (.int .i64 R) ∧ Below w.heap.size w w' := by
  have K1 := Lib.hid k1; have K2 := Lib.hid k2; have K3 := Lib.hid k3; have K4 := Lib.hid k4
  clear k1 k2 k3 k4
  have h0 : decide (z < 0) = false := decide_eq_false (by omega)
  cases o <;> cases r
  all_goals
    have HR := Lib.hid hR
    clear hR
    go_enter Tryz.func12, Tryz.ntmps12
    go_wp2_with fail
    ((with_reducible refine (K1.out _ (bal (Below.refl _ _) _)).mono ?_); rintro e w1 ⟨rfl, hb1⟩)
    have R := Row10.keep hb1 (Row10.new w (.int .i64 kd) (.bool g) (.int .u64 x0) (.int .u64 x1) (.int .u64 x2) (.int .u64 x3) (.int .u64 b) (.string s) (.slice la n lc) (.slice ka m kc))
    have B1 := Lib.hid (btr (bal (Below.refl _ w) _) hb1)
    obtain ⟨p0, p1, p2, p3, p4, p5, p6, p7, p8, p9⟩ := R.parts
    clear hb1
    go_wp2_with fail
    ((with_reducible refine (K2.out _ B1.out).mono ?_); rintro e w2 ⟨rfl, hb2⟩)
    have R2 := Row10.keep hb2 R
    have B2 := Lib.hid (btr B1.out hb2)
    clear p0 p1 p2 p3 p4 p5 p6 p7 p8 p9 R hb2 B1
    obtain ⟨p0, p1, p2, p3, p4, p5, p6, p7, p8, p9⟩ := R2.parts
    go_wp2_with fail
    ((with_reducible refine (K3.out _ B2.out).mono ?_); rintro e w3 ⟨rfl, hb3⟩)
    have R3 := Row10.keep hb3 R2
    have B3 := Lib.hid (btr B2.out hb3)
    clear p0 p1 p2 p3 p4 p5 p6 p7 p8 p9 R2 hb3 B2
    obtain ⟨p0, p1, p2, p3, p4, p5, p6, p7, p8, p9⟩ := R3.parts
    first
    | (go_wp2_with (go_at_call 21; ((with_reducible refine (K4.out _ B3.out).mono ?_); rintro e w4 ⟨rfl, hb4⟩))
       go_ret
       exact ⟨ret_int HR.out.symm, btr B3.out hb4⟩)
    | (go_wp2
       go_ret
       exact ⟨ret_int HR.out.symm, B3.out⟩)
end

/-- value.May. -/
theorem vmay (T : VT) (hn : T.nodes ≤ 10000) (w : World) (hQ : Qv T w) : Calls Tryz.prog 12 #[T.val] w fun e w' => e = .returned (.int .i64 (mayN T)) ∧ Below w.heap.size w w' := by
  have k1 := fun W (hb : Below w.heap.size w W) => vdeeper 16 (by omega) T W (hQ.ins.keep hb)
  have k2 := fun W (hb : Below w.heap.size w W) => vleft T 10000 W (by omega) (by omega) (hQ.ins.keep hb)
  have k3 := fun W (hb : Below w.heap.size w W) => vhas 22 (enters_of Tryz.func22 (by kernel_rfl) rfl) overT Qv (fun o l w h t ht => h.kid t ht) (fun _ _ _ h hb => h.keep hb) (fun _ _ h => h.ins) (fun T w h => over_any T w h.ins) T W (hQ.keep hb)
  have k4 := fun W (hb : Below w.heap.size w W) => vhas 23 (enters_of Tryz.func23 (by kernel_rfl) rfl) wrongT Qv (fun o l w h t ht => h.kid t ht) (fun _ _ _ h hb => h.keep hb) (fun _ _ h => h.ins) (fun T w h => wrong_any T w h) T W (hQ.keep hb)
  rw [deepT_iff] at k1
  unfold mayN
  by_cases hd : 16 < T.depth
  · rw [if_pos hd]
    rw [decide_eq_true hd] at k1
    exact vmay_deep _ _ _ _ _ _ _ _ _ _ _ _ _ _ w k1
  · rw [if_neg hd]
    rw [decide_eq_false hd] at k1
    exact vmay_core _ _ _ _ _ _ _ _ _ _ _ _ _ _ w _ (by omega) _ _ _ rfl k1 k2 k3 k4
end Go.Proofs.YtebfggiodhaahaaGreatDoor
end
