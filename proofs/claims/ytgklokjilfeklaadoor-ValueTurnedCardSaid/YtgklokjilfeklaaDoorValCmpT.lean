/-
  value.cmpMaps, value.Cmp: the contract.
-/
import Derived.Test.YtgklokjilfeklaaDoorValCmp
import Derived.Test.YtgklokjilfeklaaDoorValSameT
import Derived.Test.YtgklokjilfeklaaDoorValTold
namespace Go.Proofs.YtgklokjilfeklaaDoor
open Go.RowKit Go.Shelf
attribute [local go_sem ↓] eql_nat neq_nat eql_int5 neq_int5

def cmpI (g : Bool) (x : Nat) : Int := if g then -(x : Int) else x
/-- whole.Cmp, of any two. -/
def cmpW (g : Bool) (x : Nat) (h : Bool) (y : Nat) : Int := if (g = true ∧ x = 0) ∨ (h = true ∧ y = 0) then 0 else cmpv (cmpI g x) (cmpI h y)
theorem I5_cmpI {g : Bool} {x : Nat} (h : ¬ (g = true ∧ x = 0)) : I5 g x = Iz (cmpI g x) := by
  cases g with
  | false => exact (Iz_nat x).symm
  | true => exact (Iz_neg (fun e => h ⟨rfl, e⟩)).symm
theorem cmpI_abs (g : Bool) (x : Nat) : (cmpI g x).natAbs = x := by cases g <;> simp [cmpI]
theorem wcmp_any (g : Bool) (x : Nat) (h : Bool) (y : Nat) (hx : x < 2 ^ 256) (hy : y < 2 ^ 256) (w : World) :
    Calls Tryd.prog 29 #[.agg #[.bool g, .int .u64 (lb 0 x), .int .u64 (lb 1 x), .int .u64 (lb 2 x), .int .u64 (lb 3 x)], .agg #[.bool h, .int .u64 (lb 0 y), .int .u64 (lb 1 y), .int .u64 (lb 2 y), .int .u64 (lb 3 y)]] w fun e w' => e = .returned (.int .i64 (cmpW g x h y)) ∧ Below w.heap.size w w' := by
  by_cases hb : (g = true ∧ x = 0) ∨ (h = true ∧ y = 0)
  · have := cmp_bad g x h y hx hb w
    unfold cmpW
    rw [if_pos hb]
    exact this
  · have := cmp_z (cmpI g x) (cmpI h y) (by rw [cmpI_abs]; exact hx) (by rw [cmpI_abs]; exact hy) w
    rw [← I5_cmpI (fun e => hb (.inl e)), ← I5_cmpI (fun e => hb (.inr e))] at this
    unfold cmpW
    rw [if_neg hb]
    exact this

set_option maxHeartbeats 1000000
set_option maxRecDepth 100000
theorem vcmp_k2 (g : Bool) (x0 x1 x2 x3 b : Int) (s : ByteArray) (la : Option Addr) (n lc : Nat) (ka : Option Addr) (m kc : Nat) (h : Bool) (y0 y1 y2 y3 b' : Int) (s' : ByteArray) (la' : Option Addr) (n' lc' : Nat) (ka' : Option Addr) (m' kc' : Nat) (w : World) :
    Calls Tryd.prog 12 #[V10 2 g x0 x1 x2 x3 b s la n lc ka m kc, V10 2 h y0 y1 y2 y3 b' s' la' n' lc' ka' m' kc'] w fun e w' => e = .returned (.int .i64 (Lib.compareInt b b')) ∧ Below w.heap.size w w' := by
  go_enter Tryd.func12, Tryd.ntmps12
  go_wp2_with (go_at_call 28; ((with_reducible refine (cmp_u _ _ _).mono ?_); rintro e w1 ⟨rfl, rfl⟩))
  go_ret
  exact ⟨rfl, by repeat (first | (with_reducible exact Below.refl _ _) | (with_reducible refine bal ?_ _) | (with_reducible refine Below.drew ?_) | (with_reducible refine bdn ?_ _))⟩
theorem vcmp_k4 (g : Bool) (x0 x1 x2 x3 b : Int) (s : ByteArray) (la : Option Addr) (n lc : Nat) (ka : Option Addr) (m kc : Nat) (h : Bool) (y0 y1 y2 y3 b' : Int) (s' : ByteArray) (la' : Option Addr) (n' lc' : Nat) (ka' : Option Addr) (m' kc' : Nat) (w : World) :
    Calls Tryd.prog 12 #[V10 4 g x0 x1 x2 x3 b s la n lc ka m kc, V10 4 h y0 y1 y2 y3 b' s' la' n' lc' ka' m' kc'] w fun e w' => e = .returned (.int .i64 (Lib.compareInt b b')) ∧ Below w.heap.size w w' := by
  go_enter Tryd.func12, Tryd.ntmps12
  go_wp2_with (go_at_call 28; ((with_reducible refine (cmp_u _ _ _).mono ?_); rintro e w1 ⟨rfl, rfl⟩))
  go_ret
  exact ⟨rfl, by repeat (first | (with_reducible exact Below.refl _ _) | (with_reducible refine bal ?_ _) | (with_reducible refine Below.drew ?_) | (with_reducible refine bdn ?_ _))⟩
theorem vcmp_k5 (g : Bool) (x0 x1 x2 x3 b : Int) (s : ByteArray) (la : Option Addr) (n lc : Nat) (ka : Option Addr) (m kc : Nat) (h : Bool) (y0 y1 y2 y3 b' : Int) (s' : ByteArray) (la' : Option Addr) (n' lc' : Nat) (ka' : Option Addr) (m' kc' : Nat) (w : World) :
    Calls Tryd.prog 12 #[V10 5 g x0 x1 x2 x3 b s la n lc ka m kc, V10 5 h y0 y1 y2 y3 b' s' la' n' lc' ka' m' kc'] w fun e w' => e = .returned (.int .i64 (cmpS s s')) ∧ Below w.heap.size w w' := by
  go_enter Tryd.func12, Tryd.ntmps12
  go_wp2_with (go_at_call 30; ((with_reducible refine (cmp_s _ _ _).mono ?_); rintro e w1 ⟨rfl, rfl⟩))
  go_ret
  exact ⟨rfl, by repeat (first | (with_reducible exact Below.refl _ _) | (with_reducible refine bal ?_ _) | (with_reducible refine Below.drew ?_) | (with_reducible refine bdn ?_ _))⟩
theorem vcmp_k6 (g : Bool) (x0 x1 x2 x3 b : Int) (s : ByteArray) (la : Option Addr) (n lc : Nat) (ka : Option Addr) (m kc : Nat) (h : Bool) (y0 y1 y2 y3 b' : Int) (s' : ByteArray) (la' : Option Addr) (n' lc' : Nat) (ka' : Option Addr) (m' kc' : Nat) (w : World) :
    Calls Tryd.prog 12 #[V10 6 g x0 x1 x2 x3 b s la n lc ka m kc, V10 6 h y0 y1 y2 y3 b' s' la' n' lc' ka' m' kc'] w fun e w' => e = .returned (.int .i64 (cmpS s s')) ∧ Below w.heap.size w w' := by
  go_enter Tryd.func12, Tryd.ntmps12
  go_wp2_with (go_at_call 30; ((with_reducible refine (cmp_s _ _ _).mono ?_); rintro e w1 ⟨rfl, rfl⟩))
  go_ret
  exact ⟨rfl, by repeat (first | (with_reducible exact Below.refl _ _) | (with_reducible refine bal ?_ _) | (with_reducible refine Below.drew ?_) | (with_reducible refine bdn ?_ _))⟩
theorem vcmp_k3 (g : Bool) (x0 x1 x2 x3 b : Int) (s : ByteArray) (la : Option Addr) (n lc : Nat) (ka : Option Addr) (m kc : Nat) (h : Bool) (y0 y1 y2 y3 b' : Int) (s' : ByteArray) (la' : Option Addr) (n' lc' : Nat) (ka' : Option Addr) (m' kc' : Nat) (R : Int) (w : World) (k1 : ∀ W, Below w.heap.size w W → Calls Tryd.prog 29 #[.agg #[.bool g, .int .u64 x0, .int .u64 x1, .int .u64 x2, .int .u64 x3], .agg #[.bool h, .int .u64 y0, .int .u64 y1, .int .u64 y2, .int .u64 y3]] W fun e w' => e = .returned (.int .i64 R) ∧ Below W.heap.size W w') :
    Calls Tryd.prog 12 #[V10 3 g x0 x1 x2 x3 b s la n lc ka m kc, V10 3 h y0 y1 y2 y3 b' s' la' n' lc' ka' m' kc'] w fun e w' => e = .returned (.int .i64 R) ∧ Below w.heap.size w w' := by
  have K1 := Lib.hid k1; clear k1
  go_enter Tryd.func12, Tryd.ntmps12
  go_wp2_with (go_at_call 29; ((with_reducible refine (K1.out _ (bal (bal (Below.refl _ _) _) _)).mono ?_); rintro e w1 ⟨rfl, hb1⟩))
  go_ret
  exact ⟨rfl, btr (by repeat (first | (with_reducible exact Below.refl _ _) | (with_reducible refine bal ?_ _) | (with_reducible refine Below.drew ?_) | (with_reducible refine bdn ?_ _))) hb1⟩
theorem vcmp_k7 (g : Bool) (x0 x1 x2 x3 b : Int) (s : ByteArray) (la : Option Addr) (n lc : Nat) (ka : Option Addr) (m kc : Nat) (h : Bool) (y0 y1 y2 y3 b' : Int) (s' : ByteArray) (la' : Option Addr) (n' lc' : Nat) (ka' : Option Addr) (m' kc' : Nat) (R : Int) (w : World) (k1 : ∀ W, Below w.heap.size w W → Calls Tryd.prog 31 #[.slice la n lc, .slice la' n' lc', .func (.func 12) #[] #[]] W fun e w' => e = .returned (.int .i64 R) ∧ Below W.heap.size W w') :
    Calls Tryd.prog 12 #[V10 7 g x0 x1 x2 x3 b s la n lc ka m kc, V10 7 h y0 y1 y2 y3 b' s' la' n' lc' ka' m' kc'] w fun e w' => e = .returned (.int .i64 R) ∧ Below w.heap.size w w' := by
  have K1 := Lib.hid k1; clear k1
  go_enter Tryd.func12, Tryd.ntmps12
  go_wp2_with (go_at_call 31; ((with_reducible refine (K1.out _ (bal (bal (Below.refl _ _) _) _)).mono ?_); rintro e w1 ⟨rfl, hb1⟩))
  go_ret
  exact ⟨rfl, btr (by repeat (first | (with_reducible exact Below.refl _ _) | (with_reducible refine bal ?_ _) | (with_reducible refine Below.drew ?_) | (with_reducible refine bdn ?_ _))) hb1⟩
theorem vcmp_k8 (g : Bool) (x0 x1 x2 x3 b : Int) (s : ByteArray) (la : Option Addr) (n lc : Nat) (ka : Option Addr) (m kc : Nat) (h : Bool) (y0 y1 y2 y3 b' : Int) (s' : ByteArray) (la' : Option Addr) (n' lc' : Nat) (ka' : Option Addr) (m' kc' : Nat) (R : Int) (w : World) (k1 : ∀ W, Below w.heap.size w W → Calls Tryd.prog 32 #[V10 8 g x0 x1 x2 x3 b s la n lc ka m kc, V10 8 h y0 y1 y2 y3 b' s' la' n' lc' ka' m' kc'] W fun e w' => e = .returned (.int .i64 R) ∧ Below W.heap.size W w') :
    Calls Tryd.prog 12 #[V10 8 g x0 x1 x2 x3 b s la n lc ka m kc, V10 8 h y0 y1 y2 y3 b' s' la' n' lc' ka' m' kc'] w fun e w' => e = .returned (.int .i64 R) ∧ Below w.heap.size w w' := by
  have K1 := Lib.hid k1; clear k1
  go_enter Tryd.func12, Tryd.ntmps12
  go_wp2_with (go_at_call 32; ((with_reducible refine (K1.out _ (bal (bal (Below.refl _ _) _) _)).mono ?_); rintro e w1 ⟨rfl, hb1⟩))
  go_ret
  exact ⟨rfl, btr (by repeat (first | (with_reducible exact Below.refl _ _) | (with_reducible refine bal ?_ _) | (with_reducible refine Below.drew ?_) | (with_reducible refine bdn ?_ _))) hb1⟩
theorem vcmp_none (kd : Int) (h2 : (kd == 2) = false) (h3 : (kd == 3) = false) (h4 : (kd == 4) = false) (h5 : (kd == 5) = false) (h6 : (kd == 6) = false) (h7 : (kd == 7) = false) (h8 : (kd == 8) = false) (g : Bool) (x0 x1 x2 x3 b : Int) (s : ByteArray) (la : Option Addr) (n lc : Nat) (ka : Option Addr) (m kc : Nat) (h : Bool) (y0 y1 y2 y3 b' : Int) (s' : ByteArray) (la' : Option Addr) (n' lc' : Nat) (ka' : Option Addr) (m' kc' : Nat) (w : World) :
    Calls Tryd.prog 12 #[V10 kd g x0 x1 x2 x3 b s la n lc ka m kc, V10 kd h y0 y1 y2 y3 b' s' la' n' lc' ka' m' kc'] w fun e w' => e = .returned (.int .i64 0) ∧ Below w.heap.size w w' := by
  have hne : (kd != kd) = false := by simp
  go_enter Tryd.func12, Tryd.ntmps12
  go_wp2
  go_ret
  exact ⟨rfl, by repeat (first | (with_reducible exact Below.refl _ _) | (with_reducible refine bal ?_ _) | (with_reducible refine Below.drew ?_) | (with_reducible refine bdn ?_ _))⟩

theorem vmaps_len (g : Bool) (x0 x1 x2 x3 b : Int) (s : ByteArray) (la : Option Addr) (n lc : Nat) (ka : Option Addr) (m kc : Nat) (h : Bool) (y0 y1 y2 y3 b' : Int) (s' : ByteArray) (la' : Option Addr) (n' lc' : Nat) (ka' : Option Addr) (m' kc' : Nat) (hl : (Lib.compareInt (m : Int) (m' : Int) != 0) = true) (w : World) :
    Calls Tryd.prog 32 #[V10 8 g x0 x1 x2 x3 b s la n lc ka m kc, V10 8 h y0 y1 y2 y3 b' s' la' n' lc' ka' m' kc'] w fun e w' => e = .returned (.int .i64 (Lib.compareInt (m : Int) (m' : Int))) ∧ Below w.heap.size w w' := by
  have HC := Lib.hid (fun W => Tryd.cmp_Compare_int (m : Int) (m' : Int) W)
  generalize Lib.compareInt (m : Int) (m' : Int) = C at *
  go_enter Tryd.func32, Tryd.ntmps32
  go_wp2_with (go_at_call 27; ((with_reducible refine (HC.out _).mono ?_); rintro e w1 ⟨rfl, hw⟩; rw [hw]))
  go_ret
  exact ⟨rfl, by repeat (first | (with_reducible exact Below.refl _ _) | (with_reducible refine bal ?_ _) | (with_reducible refine Below.drew ?_) | (with_reducible refine bdn ?_ _))⟩
theorem cmpInt_self (x : Int) : Lib.compareInt x x = 0 := by unfold Lib.compareInt; rw [if_neg (by omega), if_neg (by omega)]
theorem vmaps_keys (g : Bool) (x0 x1 x2 x3 b : Int) (s : ByteArray) (la : Option Addr) (n lc : Nat) (ka : Option Addr) (m kc : Nat) (h : Bool) (y0 y1 y2 y3 b' : Int) (s' : ByteArray) (la' : Option Addr) (n' lc' : Nat) (ka' : Option Addr) (kc' : Nat) (C : Int) (hC : (C != 0) = true) (w : World)
    (k1 : ∀ W, Below w.heap.size w W → Calls Tryd.prog 54 #[.slice ka m kc, .slice ka' m kc'] W fun e w' => e = .returned (.int .i64 C) ∧ Below W.heap.size W w') :
    Calls Tryd.prog 32 #[V10 8 g x0 x1 x2 x3 b s la n lc ka m kc, V10 8 h y0 y1 y2 y3 b' s' la' n' lc' ka' m kc'] w fun e w' => e = .returned (.int .i64 C) ∧ Below w.heap.size w w' := by
  have HC := Lib.hid (fun W => Tryd.cmp_Compare_int (m : Int) (m : Int) W)
  rw [cmpInt_self] at HC
  have K1 := Lib.hid k1
  clear k1
  go_enter Tryd.func32, Tryd.ntmps32
  go_wp2_with fail
  ((with_reducible refine (HC.out _).mono ?_); rintro e w1 ⟨rfl, hw⟩; rw [hw])
  clear hw HC
  go_wp2_with fail
  ((with_reducible refine (K1.out _ (bal (bal (Below.refl _ _) _) _)).mono ?_); rintro e w2 ⟨rfl, hb1⟩)
  go_wp2
  go_ret
  exact ⟨rfl, btr (bal (bal (Below.refl _ _) _) _) hb1⟩
theorem vmaps_kids (g : Bool) (x0 x1 x2 x3 b : Int) (s : ByteArray) (la : Option Addr) (n lc : Nat) (ka : Option Addr) (m kc : Nat) (h : Bool) (y0 y1 y2 y3 b' : Int) (s' : ByteArray) (la' : Option Addr) (n' lc' : Nat) (ka' : Option Addr) (kc' : Nat) (R : Int) (w : World)
    (k1 : ∀ W, Below w.heap.size w W → Calls Tryd.prog 54 #[.slice ka m kc, .slice ka' m kc'] W fun e w' => e = .returned (.int .i64 0) ∧ Below W.heap.size W w')
    (k2 : ∀ W, Below w.heap.size w W → Calls Tryd.prog 31 #[.slice la n lc, .slice la' n' lc', .func (.func 12) #[] #[]] W fun e w' => e = .returned (.int .i64 R) ∧ Below W.heap.size W w') :
    Calls Tryd.prog 32 #[V10 8 g x0 x1 x2 x3 b s la n lc ka m kc, V10 8 h y0 y1 y2 y3 b' s' la' n' lc' ka' m kc'] w fun e w' => e = .returned (.int .i64 R) ∧ Below w.heap.size w w' := by
  have HC := Lib.hid (fun W => Tryd.cmp_Compare_int (m : Int) (m : Int) W)
  rw [cmpInt_self] at HC
  have K1 := Lib.hid k1; have K2 := Lib.hid k2
  clear k1 k2
  go_enter Tryd.func32, Tryd.ntmps32
  go_wp2_with fail
  ((with_reducible refine (HC.out _).mono ?_); rintro e w1 ⟨rfl, hw⟩; rw [hw])
  clear hw HC
  go_wp2_with fail
  ((with_reducible refine (K1.out _ (bal (bal (Below.refl _ _) _) _)).mono ?_); rintro e w2 ⟨rfl, hb1⟩)
  have X1 := Row10.keep hb1 (Row10.alloc (Row10.new w (.int .i64 8) (.bool g) (.int .u64 x0) (.int .u64 x1) (.int .u64 x2) (.int .u64 x3) (.int .u64 b) (.string s) (.slice la n lc) (.slice ka m kc)) _)
  have Y1 := Row10.keep hb1 (row10_new2 w _ (.int .i64 8) (.bool h) (.int .u64 y0) (.int .u64 y1) (.int .u64 y2) (.int .u64 y3) (.int .u64 b') (.string s') (.slice la' n' lc') (.slice ka' m kc'))
  have B1 := Lib.hid (btr (bal (bal (Below.refl _ w) _) _) hb1)
  clear hb1 K1
  obtain ⟨q0, q1, q2, q3, q4, q5, q6, q7, q8, q9⟩ := X1.parts
  obtain ⟨t0, t1, t2, t3, t4, t5, t6, t7, t8, t9⟩ := Y1.parts
  clear X1 Y1
  go_wp2_with (go_at_call 31; ((with_reducible refine (K2.out _ B1.out).mono ?_); rintro e w3 ⟨rfl, hb2⟩))
  go_ret
  exact ⟨rfl, btr B1.out hb2⟩

/-- value.Cmp, of any two, by what each kind's comparison answers. -/
def cmpO (kd kd' b b' W S : Int) (m m' : Nat) (K F : Int) : Int :=
  if kd = kd' then
    if kd = 2 ∨ kd = 4 then Lib.compareInt b b'
    else if kd = 3 then W
    else if kd = 5 ∨ kd = 6 then S
    else if kd = 7 then F
    else if kd = 8 then
      if m = m' then
        if K = 0 then F else K
      else Lib.compareInt (m : Int) (m' : Int)
    else 0
  else Lib.compareInt kd kd'
def cmpT : VT → VT → Int
  | .mk o l, U => cmpO o.kind U.o.kind o.bits U.o.bits (cmpW o.g o.x U.o.g U.o.x) (cmpS o.text U.o.text) o.keys.length U.o.keys.length (cmpKs o.keys U.o.keys) (cmpF (l.map fun k => cmpT k) U.kids)
theorem cmpInt_ne {x y : Int} (h : x ≠ y) : (Lib.compareInt x y != 0) = true := by
  unfold Lib.compareInt
  by_cases h1 : x < y
  · rw [if_pos h1]; rfl
  · rw [if_neg h1, if_pos (by omega)]; rfl
theorem vcmp : ∀ (T U : VT) (w : World), T.In w → U.In w → Calls Tryd.prog 12 #[T.val, U.val] w fun e w' => e = .returned (.int .i64 (cmpT T U)) ∧ Below w.heap.size w w' := by
  intro T
  induction T using VT.ind with
  | h o kids ih =>
    intro U w hT hU
    obtain ⟨kb, koff, hK⟩ := hT.keys'
    obtain ⟨bb, off, hL⟩ := hT.kids'
    have hwf := hT.wf
    obtain ⟨o', us⟩ := U
    obtain ⟨kb', koff', hK'⟩ := hU.keys'
    obtain ⟨bb', off', hL'⟩ := hU.kids'
    have hwf' := hU.wf
    obtain ⟨_, hx, _⟩ := hwf
    obtain ⟨_, hx', _⟩ := hwf'
    have kk := fun (hl : o.keys.length = o'.keys.length) W (hb : Below w.heap.size w W) => kcompare o.ka o.kcap o.keys kb koff o'.ka o'.kcap o'.keys kb' koff' W (hK.keep hb) (hK'.keep hb) hl
    have kl := fun W (hb : Below w.heap.size w W) => vcompare 12 (enters_of Tryd.func12 (by kernel_rfl) rfl) o.la o.lcap kids bb off o'.la o'.lcap us bb' off' (kids.map cmpT) W (hL.keep hb) (hL'.keep hb) (by simp) (fun k t u f ht hu hf W' hb' => by
      rw [List.getElem?_map, ht] at hf
      obtain rfl := Option.some.inj hf
      exact ih t (List.mem_of_getElem? ht) u W' (((hL.ins k t ht).keep hb).keep hb') (((hL'.ins k u hu).keep hb).keep hb'))
    rw [cmpT, val_eq, val_eq]
    obtain ⟨kd, g, x, b, s, la, lc, ka, kc, ks⟩ := o
    obtain ⟨kd', g', x', b', s', la', lc', ka', kc', ks'⟩ := o'
    simp only [VT.o_mk, VT.kids_mk] at *
    unfold cmpO
    by_cases hkk : kd = kd'
    · subst hkk
      rw [if_pos rfl]
      by_cases h2 : kd = 2
      · subst h2; rw [if_pos (.inl rfl)]; exact vcmp_k2 _ _ _ _ _ _ _ _ _ _ _ _ _ _ _ _ _ _ _ _ _ _ _ _ _ _ w
      by_cases h4 : kd = 4
      · subst h4; rw [if_pos (.inr rfl)]; exact vcmp_k4 _ _ _ _ _ _ _ _ _ _ _ _ _ _ _ _ _ _ _ _ _ _ _ _ _ _ w
      rw [if_neg (by omega)]
      by_cases h3 : kd = 3
      · subst h3; rw [if_pos rfl]; exact vcmp_k3 _ _ _ _ _ _ _ _ _ _ _ _ _ _ _ _ _ _ _ _ _ _ _ _ _ _ _ w (fun W _ => wcmp_any g x g' x' hx hx' W)
      rw [if_neg h3]
      by_cases h5 : kd = 5
      · subst h5; rw [if_pos (.inl rfl)]; exact vcmp_k5 _ _ _ _ _ _ _ _ _ _ _ _ _ _ _ _ _ _ _ _ _ _ _ _ _ _ w
      by_cases h6 : kd = 6
      · subst h6; rw [if_pos (.inr rfl)]; exact vcmp_k6 _ _ _ _ _ _ _ _ _ _ _ _ _ _ _ _ _ _ _ _ _ _ _ _ _ _ w
      rw [if_neg (by omega)]
      by_cases h7 : kd = 7
      · subst h7; rw [if_pos rfl]; exact vcmp_k7 _ _ _ _ _ _ _ _ _ _ _ _ _ _ _ _ _ _ _ _ _ _ _ _ _ _ _ w kl
      rw [if_neg h7]
      by_cases h8 : kd = 8
      · subst h8
        rw [if_pos rfl]
        refine vcmp_k8 _ _ _ _ _ _ _ _ _ _ _ _ _ _ _ _ _ _ _ _ _ _ _ _ _ _ _ w (fun W hb => ?_)
        by_cases hl : ks.length = ks'.length
        · rw [if_pos hl]
          have kk2 := fun W' (hb' : Below W.heap.size W W') => kk hl W' (btr hb hb')
          have kl2 := fun W' (hb' : Below W.heap.size W W') => kl W' (btr hb hb')
          rw [← hl] at kk2 ⊢
          by_cases hc : cmpKs ks ks' = 0
          · rw [hc] at kk2 ⊢
            rw [if_pos rfl]
            exact vmaps_kids _ _ _ _ _ _ _ _ _ _ _ _ _ _ _ _ _ _ _ _ _ _ _ _ _ _ W kk2 kl2
          · rw [if_neg hc]
            exact vmaps_keys _ _ _ _ _ _ _ _ _ _ _ _ _ _ _ _ _ _ _ _ _ _ _ _ _ _ (bne_iff_ne.2 hc) W kk2
        · rw [if_neg hl]
          exact vmaps_len _ _ _ _ _ _ _ _ _ _ _ _ _ _ _ _ _ _ _ _ _ _ _ _ _ _ (cmpInt_ne (by omega)) W
      rw [if_neg h8]
      exact vcmp_none kd (beq_eq_false_iff_ne.2 h2) (beq_eq_false_iff_ne.2 h3) (beq_eq_false_iff_ne.2 h4) (beq_eq_false_iff_ne.2 h5) (beq_eq_false_iff_ne.2 h6) (beq_eq_false_iff_ne.2 h7) (beq_eq_false_iff_ne.2 h8) _ _ _ _ _ _ _ _ _ _ _ _ _ _ _ _ _ _ _ _ _ _ _ _ _ _ w
    · rw [if_neg hkk]
      exact cmp_kinds kd _ _ _ _ _ _ _ _ _ _ _ _ _ kd' _ _ _ _ _ _ _ _ _ _ _ _ _ (bne_iff_ne.2 hkk) w
end Go.Proofs.YtgklokjilfeklaaDoor
