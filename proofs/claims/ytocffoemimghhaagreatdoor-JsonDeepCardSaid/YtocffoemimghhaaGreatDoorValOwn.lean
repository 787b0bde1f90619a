/-
  value.wrong, has(overfull), has(wrong), value.May: for every value that lies in memory and is small enough.
-/
import Derived.Test.YtocffoemimghhaaGreatDoorGW
import Derived.Test.YtocffoemimghhaaGreatDoorValLeft
import Derived.Test.YtocffoemimghhaaGreatDoorGF
import Derived.Test.YtocffoemimghhaaGreatDoorGE
namespace Go.Proofs.YtocffoemimghhaaGreatDoor
open Go.RowKit Go.Shelf

/-- Are all parts that the kind does not name zero? -/
def outB (o : Own) (n : Nat) : Bool :=
  let D := eqO o.kind o.g (lb 0 o.x) (lb 1 o.x) (lb 2 o.x) (lb 3 o.x) o.bits o.text (o.keys.length : Int) (n : Int) o.kind
  if o.kind = 2 ∨ o.kind = 4 then D false 0 0 0 0 o.bits ⟨#[]⟩ ((0 : Nat) : Int) ((0 : Nat) : Int)
  else if o.kind = 3 then D o.g (lb 0 o.x) (lb 1 o.x) (lb 2 o.x) (lb 3 o.x) 0 ⟨#[]⟩ ((0 : Nat) : Int) ((0 : Nat) : Int)
  else if o.kind = 5 ∨ o.kind = 6 then D false 0 0 0 0 0 o.text ((0 : Nat) : Int) ((0 : Nat) : Int)
  else if o.kind = 7 then D false 0 0 0 0 0 ⟨#[]⟩ ((0 : Nat) : Int) (n : Int)
  else if o.kind = 8 then D false 0 0 0 0 0 ⟨#[]⟩ (o.keys.length : Int) (n : Int)
  else D false 0 0 0 0 0 ⟨#[]⟩ ((0 : Nat) : Int) ((0 : Nat) : Int)
/-- May a whole number be? -/
def okI (g : Bool) (x : Nat) : Bool := !eq5 g (lb 0 x) (lb 1 x) (lb 2 x) (lb 3 x) true 0 0 0 0
/-- Is what the kind names such as it may be? -/
def restB (o : Own) (n : Nat) : Bool :=
  if o.kind = 1 ∨ o.kind = 6 ∨ o.kind = 7 then true
  else if o.kind = 2 then !decide (1 < o.bits)
  else if o.kind = 3 then okI o.g o.x
  else if o.kind = 4 then mayF o.bits.toNat
  else if o.kind = 5 then uval o.text.data.toList
  else if o.kind = 8 then decide (o.keys.length = n) && namesB o.keys
  else false
/-- Is what is its own such as it may be? -/
def ownB (o : Own) (n : Nat) : Bool := outB o n && restB o n

/-- Of all values in a value. -/
inductive VT.Every (p : Own → Prop) : VT → Prop
  | mk (o : Own) (kids : List VT) (h : p o) (hk : ∀ (t : VT), t ∈ kids → VT.Every p t) : VT.Every p (.mk o kids)
theorem VT.Every.own {p : Own → Prop} {o : Own} {l : List VT} (h : (VT.mk o l).Every p) : p o := by cases h; assumption
theorem VT.Every.mem {p : Own → Prop} {o : Own} {l : List VT} (h : (VT.mk o l).Every p) {t : VT} (ht : t ∈ l) : t.Every p := by cases h; rename_i a b; exact b t ht
/-- Small texts. -/
def SmallO (o : Own) : Prop := o.text.size ≤ 100000 ∧ ∀ s ∈ o.keys, s.size ≤ 100000
/-- A small value in memory, beside the table of package math/bits. -/
structure Qv (T : VT) (w : World) : Prop where
  ins : T.In w
  tb : Tb w
  small : T.Every SmallO
theorem Qv.kid {o : Own} {l : List VT} {w : World} (h : Qv (.mk o l) w) (t : VT) (ht : t ∈ l) : Qv t w := ⟨h.ins.mem ht, h.tb, h.small.mem ht⟩
theorem Qv.keep {T : VT} {w w' : World} (h : Qv T w) (hb : Below w.heap.size w w') : Qv T w' := ⟨h.ins.keep hb, tb_on h.tb hb, h.small⟩

theorem wmay_any (g : Bool) (x : Nat) (W : World) : Calls Tryz.prog 50 #[.agg #[.bool g, .int .u64 (lb 0 x), .int .u64 (lb 1 x), .int .u64 (lb 2 x), .int .u64 (lb 3 x)]] W fun e w' => e = .returned (.bool (okI g x)) ∧ Below W.heap.size W w' := by
  refine (may_core g _ _ _ _ W).mono ?_
  rintro e w' ⟨rfl, o, rfl⟩
  exact ⟨rfl, bal (Below.refl _ _) _⟩
theorem val_eq (o : Own) (l : List VT) : (VT.mk o l).val = V10 o.kind o.g (lb 0 o.x) (lb 1 o.x) (lb 2 o.x) (lb 3 o.x) o.bits o.text o.la l.length o.lcap o.ka o.keys.length o.kcap := rfl

/-- value.wrong. -/
theorem wrong_any (T : VT) (w : World) (hQ : Qv T w) : Calls Tryz.prog 25 #[T.val] w fun e w' => e = .returned (.bool (!ownB T.o T.kids.length)) ∧ Below w.heap.size w w' := by
  obtain ⟨o, kids⟩ := T
  obtain ⟨kb, koff, hK⟩ := hQ.ins.keys'
  obtain ⟨hs, hks⟩ := hQ.small.own
  have hw := hQ.ins.wf
  obtain ⟨_, _, ⟨hb0, hb1⟩, _, _⟩ := hw
  rw [val_eq]
  obtain ⟨kd, g, x, b, s, la, lc, ka, kc, ks⟩ := o
  simp only [VT.o_mk, VT.kids_mk] at hs hks hK hb0 hb1 ⊢
  have out : ∀ (D : Bool), outB ⟨kd, g, x, b, s, la, lc, ka, kc, ks⟩ kids.length = D → ownB ⟨kd, g, x, b, s, la, lc, ka, kc, ks⟩ kids.length = (D && restB ⟨kd, g, x, b, s, la, lc, ka, kc, ks⟩ kids.length) := fun D h => by unfold ownB; rw [h]
  by_cases h1 : kd = 1
  · subst h1
    cases hD : outB ⟨1, g, x, b, s, la, lc, ka, kc, ks⟩ kids.length with
    | false => rw [out _ hD]; exact wrong_diff 1 _ _ _ _ _ _ _ _ _ _ _ _ _ _ _ _ _ _ _ _ _ _ _ _ _ _ w (bare_k1 _ _ _ _ _ _ _ _ _ _ _ _ _) hD
    | true => rw [out _ hD]; exact wrong_k1 _ _ _ _ _ _ _ _ _ _ _ _ _ _ _ _ _ _ _ _ _ _ _ _ _ _ w (bare_k1 _ _ _ _ _ _ _ _ _ _ _ _ _) hD
  by_cases h2 : kd = 2
  · subst h2
    cases hD : outB ⟨2, g, x, b, s, la, lc, ka, kc, ks⟩ kids.length with
    | false => rw [out _ hD]; exact wrong_diff 2 _ _ _ _ _ _ _ _ _ _ _ _ _ _ _ _ _ _ _ _ _ _ _ _ _ _ w (bare_k2 _ _ _ _ _ _ _ _ _ _ _ _ _) hD
    | true =>
      rw [out _ hD, show (!(true && restB ⟨2, g, x, b, s, la, lc, ka, kc, ks⟩ kids.length)) = decide (1 < b) by simp [restB]]
      exact wrong_k2 _ _ _ _ _ _ _ _ _ _ _ _ _ _ _ _ _ _ _ _ _ _ _ _ _ _ w (bare_k2 _ _ _ _ _ _ _ _ _ _ _ _ _) hD
  by_cases h3 : kd = 3
  · subst h3
    cases hD : outB ⟨3, g, x, b, s, la, lc, ka, kc, ks⟩ kids.length with
    | false => rw [out _ hD]; exact wrong_diff 3 _ _ _ _ _ _ _ _ _ _ _ _ _ _ _ _ _ _ _ _ _ _ _ _ _ _ w (bare_k3 _ _ _ _ _ _ _ _ _ _ _ _ _) hD
    | true => rw [out _ hD]; exact wrong_k3 _ _ _ _ _ _ _ _ _ _ _ _ _ _ _ _ _ _ _ _ _ _ _ _ _ _ w (bare_k3 _ _ _ _ _ _ _ _ _ _ _ _ _) hD _ (fun W _ => wmay_any g x W)
  by_cases h4 : kd = 4
  · subst h4
    have e : b = ((b.toNat : Nat) : Int) := by omega
    cases hD : outB ⟨4, g, x, b, s, la, lc, ka, kc, ks⟩ kids.length with
    | false => rw [out _ hD]; exact wrong_diff 4 _ _ _ _ _ _ _ _ _ _ _ _ _ _ _ _ _ _ _ _ _ _ _ _ _ _ w (bare_k4 _ _ _ _ _ _ _ _ _ _ _ _ _) hD
    | true =>
      rw [out _ hD]
      exact wrong_k4 _ _ _ _ _ _ _ _ _ _ _ _ _ _ _ _ _ _ _ _ _ _ _ _ _ _ w (bare_k4 _ _ _ _ _ _ _ _ _ _ _ _ _) hD _ (fun W hb => by
        have := fmay_any b.toNat (by omega) W (tb_on hQ.tb hb)
        rw [← e] at this
        exact this)
  by_cases h5 : kd = 5
  · subst h5
    cases hD : outB ⟨5, g, x, b, s, la, lc, ka, kc, ks⟩ kids.length with
    | false => rw [out _ hD]; exact wrong_diff 5 _ _ _ _ _ _ _ _ _ _ _ _ _ _ _ _ _ _ _ _ _ _ _ _ _ _ w (bare_k5 _ _ _ _ _ _ _ _ _ _ _ _ _) hD
    | true =>
      rw [out _ hD]
      exact wrong_k5 _ _ _ _ _ _ _ _ _ _ _ _ _ _ _ _ _ _ _ _ _ _ _ _ _ _ w (bare_k5 _ _ _ _ _ _ _ _ _ _ _ _ _) hD _ (fun W _ => (valid_any s (by omega) W).mono fun _ _ ⟨a, c⟩ => ⟨a, by rw [c]; exact Below.refl _ _⟩)
  by_cases h6 : kd = 6
  · subst h6
    cases hD : outB ⟨6, g, x, b, s, la, lc, ka, kc, ks⟩ kids.length with
    | false => rw [out _ hD]; exact wrong_diff 6 _ _ _ _ _ _ _ _ _ _ _ _ _ _ _ _ _ _ _ _ _ _ _ _ _ _ w (bare_k6 _ _ _ _ _ _ _ _ _ _ _ _ _) hD
    | true => rw [out _ hD]; exact wrong_k6 _ _ _ _ _ _ _ _ _ _ _ _ _ _ _ _ _ _ _ _ _ _ _ _ _ _ w (bare_k6 _ _ _ _ _ _ _ _ _ _ _ _ _) hD
  by_cases h7 : kd = 7
  · subst h7
    cases hD : outB ⟨7, g, x, b, s, la, lc, ka, kc, ks⟩ kids.length with
    | false => rw [out _ hD]; exact wrong_diff 7 _ _ _ _ _ _ _ _ _ _ _ _ _ _ _ _ _ _ _ _ _ _ _ _ _ _ w (bare_k7 _ _ _ _ _ _ _ _ _ _ _ _ _) hD
    | true => rw [out _ hD]; exact wrong_k7 _ _ _ _ _ _ _ _ _ _ _ _ _ _ _ _ _ _ _ _ _ _ _ _ _ _ w (bare_k7 _ _ _ _ _ _ _ _ _ _ _ _ _) hD
  by_cases h8 : kd = 8
  · subst h8
    cases hD : outB ⟨8, g, x, b, s, la, lc, ka, kc, ks⟩ kids.length with
    | false => rw [out _ hD]; exact wrong_diff 8 _ _ _ _ _ _ _ _ _ _ _ _ _ _ _ _ _ _ _ _ _ _ _ _ _ _ w (bare_k8 _ _ _ _ _ _ _ _ _ _ _ _ _) hD
    | true =>
      rw [out _ hD]
      by_cases hmn : ks.length = kids.length
      · rw [show (!(true && restB ⟨8, g, x, b, s, la, lc, ka, kc, ks⟩ kids.length)) = !namesB ks by simp [restB, hmn]]
        exact wrong_k8 _ _ _ _ _ _ _ _ _ _ _ _ _ _ _ _ _ _ _ _ _ _ _ _ _ _ w (bare_k8 _ _ _ _ _ _ _ _ _ _ _ _ _) hD hmn _ (fun W hb => names_any ka kc ks kb koff W (hK.keep hb) (fun t ht => by have := hks t ht; omega))
      · rw [show (!(true && restB ⟨8, g, x, b, s, la, lc, ka, kc, ks⟩ kids.length)) = true by simp [restB, hmn]]
        exact wrong_k8n _ _ _ _ _ _ _ _ _ _ _ _ _ _ _ _ _ _ _ _ _ _ _ _ _ _ w (bare_k8 _ _ _ _ _ _ _ _ _ _ _ _ _) hD hmn
  have b1 := beq_eq_false_iff_ne.2 h1; have b2 := beq_eq_false_iff_ne.2 h2; have b3 := beq_eq_false_iff_ne.2 h3; have b4 := beq_eq_false_iff_ne.2 h4
  have b5 := beq_eq_false_iff_ne.2 h5; have b6 := beq_eq_false_iff_ne.2 h6; have b7 := beq_eq_false_iff_ne.2 h7; have b8 := beq_eq_false_iff_ne.2 h8
  have hO : outB ⟨kd, g, x, b, s, la, lc, ka, kc, ks⟩ kids.length = eqO kd g (lb 0 x) (lb 1 x) (lb 2 x) (lb 3 x) b s (ks.length : Int) (kids.length : Int) kd false 0 0 0 0 0 ⟨#[]⟩ ((0 : Nat) : Int) ((0 : Nat) : Int) := by
    unfold outB
    simp only
    rw [if_neg (by omega), if_neg h3, if_neg (by omega), if_neg h7, if_neg h8]
  have hR : restB ⟨kd, g, x, b, s, la, lc, ka, kc, ks⟩ kids.length = false := by
    unfold restB
    simp only
    rw [if_neg (by omega), if_neg h2, if_neg h3, if_neg h4, if_neg h5, if_neg h8]
  rw [show (!ownB ⟨kd, g, x, b, s, la, lc, ka, kc, ks⟩ kids.length) = true by unfold ownB; rw [hR]; simp]
  cases hD : outB ⟨kd, g, x, b, s, la, lc, ka, kc, ks⟩ kids.length with
  | false => exact wrong_diff kd _ _ _ _ _ _ _ _ _ _ _ _ _ _ _ _ _ _ _ _ _ _ _ _ _ _ w (bare_none kd b2 b3 b4 b5 b6 b7 b8 _ _ _ _ _ _ _ _ _ _ _ _ _) (hO.symm.trans hD)
  | true => exact wrong_none kd b1 b2 b3 b4 b5 b6 b7 b8 _ _ _ _ _ _ _ _ _ _ _ _ _ _ _ _ _ _ _ _ _ _ _ _ _ _ w (bare_none kd b2 b3 b4 b5 b6 b7 b8 _ _ _ _ _ _ _ _ _ _ _ _ _) (hO.symm.trans hD)
end Go.Proofs.YtocffoemimghhaaGreatDoor
