/-
  ValGet GetsW GetsAny, one behind the other: a claim holds at most 60 files.
-/
import Derived.Test.YtjdogiehcgfmjaaDoorValClone
import Derived.Test.YtjdogiehcgfmjaaDoorR6Same
import Derived.Test.YtjdogiehcgfmjaaDoorValFew
import Derived.Test.YtjdogiehcgfmjaaDoorValTold
import Derived.Lib.QuietBelow
import Derived.BigQuiet
import Derived.Deep.Cut
import Derived.Deep.DeepCutAuto
import Derived.Deep.RegionHeld3
section
namespace Go.Proofs.YtjdogiehcgfmjaaDoor
open Go.RowKit Go.Shelf

/-- What Get answers: a member's copy, and true; or nothing. -/
def GetNo (w : World) (E : Ending) (w' : World) : Prop := E = .returned (.tuple #[Z10, .bool false]) ∧ Below w.heap.size w w'
def GetYes (w : World) (t : VT) (E : Ending) (w' : World) : Prop :=
  ∃ (kd : Int) (g : Bool) (x : Nat) (b : Int) (s : ByteArray) (la : Option Addr) (lc : Nat) (ka : Option Addr) (kc : Nat) (ks : List ByteArray) (l : List VT),
    E = .returned (.tuple #[V10 kd g (lb 0 x) (lb 1 x) (lb 2 x) (lb 3 x) b s la l.length lc ka ks.length kc, .bool true]) ∧ (VT.mk ⟨kd, g, x, b, s, la, lc, ka, kc, ks⟩ l).From w.heap.size w' ∧ sameT (.mk ⟨kd, g, x, b, s, la, lc, ka, kc, ks⟩ l) t = true ∧ Below w.heap.size w w'

set_option maxRecDepth 100000 in
set_option maxHeartbeats 4000000 in
theorem vget_kind (kd : Int) (g : Bool) (x : Nat) (b : Int) (s : ByteArray) (la : Option Addr) (n lc : Nat) (ka : Option Addr) (m kc : Nat) (name : ByteArray) (w : World) (hk : (kd != 8) = true) :
    Calls Tryd.prog 10 #[V10 kd g (lb 0 x) (lb 1 x) (lb 2 x) (lb 3 x) b s la n lc ka m kc, .string name] w (GetNo w) := by
  go_enter Tryd.func10, Tryd.ntmps10
  go_wp2
  exact bodyPost_ret (v := .tuple #[Z10, .bool false]) (by simp [results, Tryd.results10, go_sem]) rfl ⟨rfl, bal (bal (Below.refl _ _) _) _⟩
set_option maxRecDepth 100000 in
set_option maxHeartbeats 4000000 in
theorem vget_neg (kd : Int) (g : Bool) (x : Nat) (b : Int) (s : ByteArray) (la : Option Addr) (n lc : Nat) (ka : Option Addr) (m kc : Nat) (name : ByteArray) (w : World) (hk : (kd != 8) = false) (i : Int) (hi : i < 0)
    (k1 : ∀ W, Below w.heap.size w W → Calls Tryd.prog 21 #[.slice ka m kc, .string name] W fun e w' => e = .returned (.int .i64 i) ∧ W = w') :
    Calls Tryd.prog 10 #[V10 kd g (lb 0 x) (lb 1 x) (lb 2 x) (lb 3 x) b s la n lc ka m kc, .string name] w (GetNo w) := by
  have K1 := Lib.hid k1
  clear k1
  go_enter Tryd.func10, Tryd.ntmps10
  go_wp2_with (go_at_call 21; ((with_reducible refine (K1.out _ (bal (bal (Below.refl _ _) _) _)).mono ?_); rintro e w1 ⟨rfl, rfl⟩))
  exact bodyPost_ret (v := .tuple #[Z10, .bool false]) (by simp [results, Tryd.results10, go_sem]) rfl ⟨rfl, bal (bal (Below.refl _ _) _) _⟩
set_option maxRecDepth 100000 in
set_option maxHeartbeats 4000000 in
theorem vget_out (kd : Int) (g : Bool) (x : Nat) (b : Int) (s : ByteArray) (la : Option Addr) (n lc : Nat) (ka : Option Addr) (m kc : Nat) (name : ByteArray) (w : World) (hk : (kd != 8) = false) (i : Int) (hi0 : ¬ i < 0) (hi : (n : Int) ≤ i)
    (k1 : ∀ W, Below w.heap.size w W → Calls Tryd.prog 21 #[.slice ka m kc, .string name] W fun e w' => e = .returned (.int .i64 i) ∧ W = w') :
    Calls Tryd.prog 10 #[V10 kd g (lb 0 x) (lb 1 x) (lb 2 x) (lb 3 x) b s la n lc ka m kc, .string name] w (GetNo w) := by
  have K1 := Lib.hid k1
  clear k1
  go_enter Tryd.func10, Tryd.ntmps10
  go_wp2_with (go_at_call 21; ((with_reducible refine (K1.out _ (bal (bal (Below.refl _ _) _) _)).mono ?_); rintro e w1 ⟨rfl, rfl⟩))
  exact bodyPost_ret (v := .tuple #[Z10, .bool false]) (by simp [results, Tryd.results10, go_sem]) rfl ⟨rfl, bal (bal (Below.refl _ _) _) _⟩
set_option maxRecDepth 100000 in
set_option maxHeartbeats 4000000 in
theorem vget_at (kd : Int) (g : Bool) (x : Nat) (b : Int) (s : ByteArray) (n lc : Nat) (ka : Option Addr) (m kc : Nat) (name : ByteArray) (w : World) (hk : (kd != 8) = false) (i : Nat) (hi : i < n) (bb off : Nat)
    (kd2 : Int) (g2 : Bool) (x2 : Nat) (b2 : Int) (s2 : ByteArray) (la2 : Option Addr) (lc2 : Nat) (ka2 : Option Addr) (kc2 : Nat) (ks2 : List ByteArray) (l2 : List VT)
    (hc : Cells10 w bb (off + i * 10) (.mk ⟨kd2, g2, x2, b2, s2, la2, lc2, ka2, kc2, ks2⟩ l2))
    (k1 : ∀ W, Below w.heap.size w W → Calls Tryd.prog 21 #[.slice ka m kc, .string name] W fun e w' => e = .returned (.int .i64 (i : Nat)) ∧ W = w')
    (k2 : ∀ W, Below w.heap.size w W → Calls Tryd.prog 22 #[V10 kd2 g2 (lb 0 x2) (lb 1 x2) (lb 2 x2) (lb 3 x2) b2 s2 la2 l2.length lc2 ka2 ks2.length kc2] W (CloneV W (.mk ⟨kd2, g2, x2, b2, s2, la2, lc2, ka2, kc2, ks2⟩ l2))) :
    Calls Tryd.prog 10 #[V10 kd g (lb 0 x) (lb 1 x) (lb 2 x) (lb 3 x) b s (some ⟨bb, off, none⟩) n lc ka m kc, .string name] w (GetYes w (.mk ⟨kd2, g2, x2, b2, s2, la2, lc2, ka2, kc2, ks2⟩ l2)) := by
  have hc' := hc.keep ((Own2.start w kd g x b s (.slice (some ⟨bb, off, none⟩) n lc) (.slice ka m kc)).below)
  obtain ⟨c0, c1, c2, c3, c4, c5, c6, c7, c8, c9⟩ := hc'.ten
  have K1 := Lib.hid k1; have K2 := Lib.hid k2
  clear k1 k2 hc hc'
  go_enter Tryd.func10, Tryd.ntmps10
  go_wp2_with (go_at_call 21; ((with_reducible refine (K1.out _ (bal (bal (Below.refl _ _) _) _)).mono ?_); rintro e w1 ⟨rfl, rfl⟩))
  ((with_reducible refine (K2.out _ (bal (bal (Below.refl _ _) _) _)).mono ?_); rintro e w3 ⟨kd3, g3, x3, b3, s3, la3, lc3, ka3, kc3, ks3, l3, rfl, hF, hS, hb3⟩)
  have O3 := Lib.hid (Own2.keep (Own2.start w kd g x b s (.slice (some ⟨bb, off, none⟩) n lc) (.slice ka m kc)) hb3)
  have HF := Lib.hid hF; have HS := Lib.hid hS
  clear hb3 hF hS c0 c1 c2 c3 c4 c5 c6 c7 c8 c9
  obtain ⟨z0, z1, z2, z3, z4, z5, z6, z7, z8, z9⟩ := O3.out.zero.parts
  have zf := O3.out.zero.free
  have hzl := O3.out.zero.lt
  go_wp2
  have RN := (O3.out.zero.set10 (.int .i64 kd3) (.bool g3) (.int .u64 (lb 0 x3)) (.int .u64 (lb 1 x3)) (.int .u64 (lb 2 x3)) (.int .u64 (lb 3 x3)) (.int .u64 b3) (.string s3) (.slice la3 l3.length lc3) (.slice ka3 ks3.length kc3)).parts
  obtain ⟨q0, q1, q2, q3, q4, q5, q6, q7, q8, q9⟩ := RN
  have FN := (HF.out.mono (show w.heap.size + 2 ≤ _ by simp)).kept (kept_put10 (c := w.heap.size + 1) (p := 0) (v0 := .int .i64 kd3) (v1 := .bool g3) (v2 := .int .u64 (lb 0 x3)) (v3 := .int .u64 (lb 1 x3)) (v4 := .int .u64 (lb 2 x3)) (v5 := .int .u64 (lb 3 x3)) (v6 := .int .u64 b3) (v7 := .string s3) (v8 := .slice la3 l3.length lc3) (v9 := .slice ka3 ks3.length kc3) (by omega))
  exact bodyPost_ret (v := .tuple #[V10 kd3 g3 (lb 0 x3) (lb 1 x3) (lb 2 x3) (lb 3 x3) b3 s3 la3 l3.length lc3 ka3 ks3.length kc3, .bool true]) (by simp [results, Tryd.results10, go_sem, q0, q1, q2, q3, q4, q5, q6, q7, q8, q9]) rfl
    ⟨kd3, g3, x3, b3, s3, la3, lc3, ka3, kc3, ks3, l3, rfl, FN.mono (by omega), HS.out, vbsc10 O3.out.below (by omega) _ _ _ _ _ _ _ _ _ _⟩

/-- A map's member by its name. -/
def getO (kd : Int) (keys : List ByteArray) (kids : List VT) (name : ByteArray) : Option VT := if kd = 8 ∧ 0 ≤ idxN keys name then kids[(idxN keys name).toNat]? else none
def getT (T : VT) (name : ByteArray) : Option VT := getO T.o.kind T.o.keys T.kids name
def GetIs (r : Option VT) (w : World) (E : Ending) (w' : World) : Prop :=
  match r with
  | some t => GetYes w t E w'
  | none => GetNo w E w'
/-- value.Get, of a value whose parts are few. -/
theorem vget (T : VT) (hE : T.Every TinyO) (hn : T.nodes ≤ 400) (name : ByteArray) (w : World) (hI : T.In w) : Calls Tryd.prog 10 #[T.val, .string name] w (GetIs (getT T name) w) := by
  obtain ⟨o, kids⟩ := T
  obtain ⟨kb, koff, hKK⟩ := hI.keys'
  obtain ⟨bb, off, hK⟩ := hI.kids'
  have hl := VT.length_nodes o kids
  have hnk := fun t (h : t ∈ kids) => VT.nodes_kid (o := o) h
  have k1 := fun W (hb : Below w.heap.size w W) => kfind o.ka o.kcap o.keys kb koff name W (hKK.keep hb)
  obtain ⟨kd, g, x, b, s, la, lc, ka, kc, keys⟩ := o
  show Calls _ _ _ w (GetIs (getO kd keys kids name) w)
  simp only at k1
  by_cases hk : kd = 8
  · have hk' : (kd != 8) = false := by rw [bne_eq_false_iff_eq]; exact hk
    by_cases h0 : idxN keys name < 0
    · have e : getO kd keys kids name = none := by unfold getO; rw [if_neg (by omega)]
      rw [e]
      exact vget_neg kd g x b s la kids.length lc ka keys.length kc name w hk' _ h0 k1
    · obtain ⟨j, hj⟩ : ∃ j : Nat, idxN keys name = j := ⟨(idxN keys name).toNat, by omega⟩
      have e : getO kd keys kids name = kids[j]? := by unfold getO; rw [if_pos ⟨hk, by omega⟩, hj, Int.toNat_natCast]
      rw [e]
      rw [hj] at k1
      by_cases h1 : j < kids.length
      · obtain ⟨t, ht, hm⟩ := kid_at h1
        rw [ht]
        have hc := hK.cells j t ht
        have hti := hK.ins j t ht
        have hla : la = some ⟨bb, off, none⟩ := hK.la (by omega)
        subst hla
        have k2 := fun W (hb : Below w.heap.size w W) => (vclone t (hE.mem hm) (by have := hnk t hm; omega) W (hti.keep hb)).mono fun _ _ h => h.v
        obtain ⟨⟨kd2, g2, x2, b2, s2, la2, lc2, ka2, kc2, ks2⟩, l2⟩ := t
        exact vget_at kd g x b s kids.length lc ka keys.length kc name w hk' j h1 bb off kd2 g2 x2 b2 s2 la2 lc2 ka2 kc2 ks2 l2 hc k1 k2
      · rw [List.getElem?_eq_none (by omega)]
        exact vget_out kd g x b s la kids.length lc ka keys.length kc name w hk' j (by omega) (by omega) k1
  · have e : getO kd keys kids name = none := by unfold getO; rw [if_neg (fun h => hk h.1)]
    rw [e]
    exact vget_kind kd g x b s la kids.length lc ka keys.length kc name w (by rw [bne_iff_ne]; exact hk)
end Go.Proofs.YtjdogiehcgfmjaaDoor
end
section
namespace Go.Proofs.YtjdogiehcgfmjaaDoor
open Go.RowKit Go.Shelf
open Go.Sort (grow)

/-- Is one of the first names such? -/
def anyTo (keys : List ByteArray) (name : ByteArray) (k : Nat) : Bool := (keys.take k).any fun s => s.toList == name.toList
theorem anyTo_next {keys : List ByteArray} {name s : ByteArray} {k : Nat} (h : keys[k]? = some s) : anyTo keys name (k + 1) = (anyTo keys name k || s.toList == name.toList) := by
  unfold anyTo; rw [take_next h, List.any_append]; simp
/-- The value's own block, and one name's cell. -/
def RK (W : World) (b : Nat) (v0 v1 v2 v3 v4 v5 v6 v7 v8 v9 : Value) (kb ko : Nat) (s : ByteArray) : Prop := Row10 W b v0 v1 v2 v3 v4 v5 v6 v7 v8 v9 ∧ W.cell? ⟨kb, ko, none⟩ = some (.string s)
section
variable {W W' : World} {b : Nat} {v0 v1 v2 v3 v4 v5 v6 v7 v8 v9 : Value} {kb ko : Nat} {s : ByteArray}
theorem RK.alloc (h : RK W b v0 v1 v2 v3 v4 v5 v6 v7 v8 v9 kb ko s) (o : Obj) : RK (W.alloc o) b v0 v1 v2 v3 v4 v5 v6 v7 v8 v9 kb ko s := ⟨h.1.alloc o, alloc_cell h.2 o⟩
theorem RK.drew (h : RK W b v0 v1 v2 v3 v4 v5 v6 v7 v8 v9 kb ko s) : RK W.drew b v0 v1 v2 v3 v4 v5 v6 v7 v8 v9 kb ko s := h
theorem RK.keep (hb : Below W.heap.size W W') (h : RK W b v0 v1 v2 v3 v4 v5 v6 v7 v8 v9 kb ko s) : RK W' b v0 v1 v2 v3 v4 v5 v6 v7 v8 v9 kb ko s := ⟨h.1.keep hb, cell_keep hb h.2⟩
theorem RK.set (h : RK W b v0 v1 v2 v3 v4 v5 v6 v7 v8 v9 kb ko s) {c i : Nat} (h1 : b ≠ c) (h2 : kb ≠ c) (u : Value) : RK (W.setCell ⟨c, i, none⟩ u) b v0 v1 v2 v3 v4 v5 v6 v7 v8 v9 kb ko s := ⟨h.1.set h1 u, cell_set_other h.2 h2 u⟩
theorem RK.parts (h : RK W b v0 v1 v2 v3 v4 v5 v6 v7 v8 v9 kb ko s) :
    W.cell? ⟨b, 0, none⟩ = some v0 ∧ W.cell? ⟨b, 1, none⟩ = some v1 ∧ W.cell? ⟨b, 2, none⟩ = some v2 ∧ W.cell? ⟨b, 3, none⟩ = some v3 ∧ W.cell? ⟨b, 4, none⟩ = some v4 ∧
    W.cell? ⟨b, 5, none⟩ = some v5 ∧ W.cell? ⟨b, 6, none⟩ = some v6 ∧ W.cell? ⟨b, 7, none⟩ = some v7 ∧ W.cell? ⟨b, 8, none⟩ = some v8 ∧ W.cell? ⟨b, 9, none⟩ = some v9 ∧ W.cell? ⟨kb, ko, none⟩ = some (.string s) := by
  obtain ⟨a0, a1, a2, a3, a4, a5, a6, a7, a8, a9⟩ := h.1.parts
  exact ⟨a0, a1, a2, a3, a4, a5, a6, a7, a8, a9, h.2⟩
end
/-- A block that holds a copy. -/
def RX (wr : World) (t : VT) (wx : World) (p : Nat) : Prop :=
  ∃ (kd : Int) (g : Bool) (x : Nat) (b : Int) (s : ByteArray) (la : Option Addr) (lc : Nat) (ka : Option Addr) (kc : Nat) (ks : List ByteArray) (l : List VT),
    Row10 wx p (.int .i64 kd) (.bool g) (.int .u64 (lb 0 x)) (.int .u64 (lb 1 x)) (.int .u64 (lb 2 x)) (.int .u64 (lb 3 x)) (.int .u64 b) (.string s) (.slice la l.length lc) (.slice ka ks.length kc) ∧
    (VT.mk ⟨kd, g, x, b, s, la, lc, ka, kc, ks⟩ l).In wx ∧ sameT (.mk ⟨kd, g, x, b, s, la, lc, ka, kc, ks⟩ l) t = true ∧ Below wr.heap.size wr wx
section
variable {wr w3 : World} {t : VT} {kd : Int} {g : Bool} {x : Nat} {b : Int} {s : ByteArray} {la : Option Addr} {lc : Nat} {ka : Option Addr} {kc : Nat} {ks : List ByteArray} {l : List VT} {lo : Nat}
theorem rx_new (hF : (VT.mk ⟨kd, g, x, b, s, la, lc, ka, kc, ks⟩ l).From lo w3) (hS : sameT (.mk ⟨kd, g, x, b, s, la, lc, ka, kc, ks⟩ l) t = true) (hb : Below wr.heap.size wr w3) :
    RX wr t (w3.alloc (.cells #[.int .i64 kd, .bool g, .int .u64 (lb 0 x), .int .u64 (lb 1 x), .int .u64 (lb 2 x), .int .u64 (lb 3 x), .int .u64 b, .string s, .slice la l.length lc, .slice ka ks.length kc] 31)) w3.heap.size :=
  ⟨kd, g, x, b, s, la, lc, ka, kc, ks, l, Row10.new _ _ _ _ _ _ _ _ _ _ _, hF.ins.keep (bal (Below.refl _ _) _), hS, bal hb _⟩
theorem rx_set {p : Nat} {u0 u1 u2 u3 u4 u5 u6 u7 u8 u9 : Value} (hZ : Row10 w3 p u0 u1 u2 u3 u4 u5 u6 u7 u8 u9) (hp : wr.heap.size ≤ p) (hlo : p < lo) (hF : (VT.mk ⟨kd, g, x, b, s, la, lc, ka, kc, ks⟩ l).From lo w3) (hS : sameT (.mk ⟨kd, g, x, b, s, la, lc, ka, kc, ks⟩ l) t = true) (hb : Below wr.heap.size wr w3) :
    RX wr t (put10 w3 p 0 (.int .i64 kd) (.bool g) (.int .u64 (lb 0 x)) (.int .u64 (lb 1 x)) (.int .u64 (lb 2 x)) (.int .u64 (lb 3 x)) (.int .u64 b) (.string s) (.slice la l.length lc) (.slice ka ks.length kc)) p :=
  ⟨kd, g, x, b, s, la, lc, ka, kc, ks, l, hZ.set10 _ _ _ _ _ _ _ _ _ _, (hF.kept (kept_put10 hlo)).ins, hS, vbsc10 hb hp _ _ _ _ _ _ _ _ _ _⟩
end

set_option maxRecDepth 100000 in
set_option maxHeartbeats 4000000 in
theorem gets_few (kd : Int) (g : Bool) (x0 x1 x2 x3 b : Int) (s : ByteArray) (la : Option Addr) (n lc : Nat) (ka : Option Addr) (m kc : Nat) (name : ByteArray) (w : World) (hT : Tb w)
    (k1 : ∀ W, Below w.heap.size w W → Calls Tryd.prog 9 #[V10 kd g x0 x1 x2 x3 b s la n lc ka m kc] W fun e w' => e = .returned (.bool false) ∧ Below W.heap.size W w') :
    Calls Tryd.prog 4 #[V10 kd g x0 x1 x2 x3 b s la n lc ka m kc, .string name] w fun e w' => e = .returned (.bool true) ∧ Below w.heap.size w w' := by
  have HT := Lib.hid hT; have K1 := Lib.hid k1
  clear hT k1
  go_enter Tryd.func4, Tryd.ntmps4
  go_wp2_with fail
  ((with_reducible refine (K1.out _ (bal (Below.refl _ _) _)).mono ?_); rintro e w1 ⟨rfl, hb⟩)
  have B1 := Lib.hid (btr (bal (Below.refl w.heap.size w) _) hb)
  clear hb
  go_wp2_with fail
  ((with_reducible refine (told6_true _ (tb_on HT.out B1.out)).mono ?_); rintro e w2 ⟨rfl, hb⟩)
  have B2 := Lib.hid (btr B1.out hb)
  clear hb B1
  go_wp2
  go_ret
  exact ⟨rfl, B2.out⟩
set_option maxRecDepth 100000 in
set_option maxHeartbeats 4000000 in
theorem gets_kind (kd : Int) (g : Bool) (x0 x1 x2 x3 b : Int) (s : ByteArray) (la : Option Addr) (n lc : Nat) (ka : Option Addr) (m kc : Nat) (name : ByteArray) (w : World) (hT : Tb w) (hk : (kd != 8) = true)
    (k1 : ∀ W, Below w.heap.size w W → Calls Tryd.prog 9 #[V10 kd g x0 x1 x2 x3 b s la n lc ka m kc] W fun e w' => e = .returned (.bool true) ∧ Below W.heap.size W w') :
    Calls Tryd.prog 4 #[V10 kd g x0 x1 x2 x3 b s la n lc ka m kc, .string name] w fun e w' => e = .returned (.bool true) ∧ Below w.heap.size w w' := by
  have HT := Lib.hid hT; have K1 := Lib.hid k1
  clear hT k1
  go_enter Tryd.func4, Tryd.ntmps4
  go_wp2_with fail
  ((with_reducible refine (K1.out _ (bal (Below.refl _ _) _)).mono ?_); rintro e w1 ⟨rfl, hb⟩)
  have B1 := Lib.hid (btr (bal (Below.refl w.heap.size w) _) hb); have X1 := Row10.keep hb (Row10.new w (.int .i64 kd) (.bool g) (.int .u64 x0) (.int .u64 x1) (.int .u64 x2) (.int .u64 x3) (.int .u64 b) (.string s) (.slice la n lc) (.slice ka m kc))
  clear hb
  obtain ⟨p0, p1, p2, p3, p4, p5, p6, p7, p8, p9⟩ := X1.parts
  go_wp2_with fail
  ((with_reducible refine (told6_true _ (tb_on HT.out B1.out)).mono ?_); rintro e w2 ⟨rfl, hb⟩)
  have B2 := Lib.hid (btr B1.out hb)
  clear hb B1
  go_wp2
  go_ret
  exact ⟨rfl, B2.out⟩
set_option maxRecDepth 100000 in
set_option maxHeartbeats 4000000 in
theorem gets_may (kd : Int) (g : Bool) (x0 x1 x2 x3 b : Int) (s : ByteArray) (la : Option Addr) (n lc : Nat) (ka : Option Addr) (m kc : Nat) (name : ByteArray) (w : World) (hT : Tb w) (hk : (kd != 8) = false) (z : Int) (hz : (z != 0) = true)
    (k1 : ∀ W, Below w.heap.size w W → Calls Tryd.prog 9 #[V10 kd g x0 x1 x2 x3 b s la n lc ka m kc] W fun e w' => e = .returned (.bool true) ∧ Below W.heap.size W w')
    (k2 : ∀ W, Below w.heap.size w W → Calls Tryd.prog 7 #[V10 kd g x0 x1 x2 x3 b s la n lc ka m kc] W fun e w' => e = .returned (.int .i64 z) ∧ Below W.heap.size W w') :
    Calls Tryd.prog 4 #[V10 kd g x0 x1 x2 x3 b s la n lc ka m kc, .string name] w fun e w' => e = .returned (.bool true) ∧ Below w.heap.size w w' := by
  have HT := Lib.hid hT; have K1 := Lib.hid k1; have K2 := Lib.hid k2
  clear hT k1 k2
  go_enter Tryd.func4, Tryd.ntmps4
  go_wp2_with fail
  ((with_reducible refine (K1.out _ (bal (Below.refl _ _) _)).mono ?_); rintro e w1 ⟨rfl, hb⟩)
  have B1 := Lib.hid (btr (bal (Below.refl w.heap.size w) _) hb); have X1 := Row10.keep hb (Row10.new w (.int .i64 kd) (.bool g) (.int .u64 x0) (.int .u64 x1) (.int .u64 x2) (.int .u64 x3) (.int .u64 b) (.string s) (.slice la n lc) (.slice ka m kc))
  clear hb
  obtain ⟨p0, p1, p2, p3, p4, p5, p6, p7, p8, p9⟩ := X1.parts
  go_wp2_with fail
  ((with_reducible refine (K2.out _ B1.out).mono ?_); rintro e w2 ⟨rfl, hb⟩)
  have B2 := Lib.hid (btr B1.out hb)
  clear hb B1
  go_wp2_with fail
  ((with_reducible refine (told6_true _ (tb_on HT.out B2.out)).mono ?_); rintro e w3 ⟨rfl, hb⟩)
  have B3 := Lib.hid (btr B2.out hb)
  clear hb B2
  go_wp2
  go_ret
  exact ⟨rfl, B3.out⟩
/-- A member got, told by its bool. -/
def GetB (w : World) (q : Bool) (E : Ending) (w' : World) : Prop :=
  ∃ (kd : Int) (g : Bool) (x0 x1 x2 x3 b : Int) (s : ByteArray) (la : Option Addr) (n lc : Nat) (ka : Option Addr) (m kc : Nat), E = .returned (.tuple #[V10 kd g x0 x1 x2 x3 b s la n lc ka m kc, .bool q]) ∧ Below w.heap.size w w'
theorem GetYes.b {w : World} {t : VT} {E : Ending} {w' : World} (h : GetYes w t E w') : GetB w true E w' := by
  obtain ⟨kd, g, x, b, s, la, lc, ka, kc, ks, l, rfl, _, _, hb⟩ := h
  exact ⟨_, _, _, _, _, _, _, _, _, _, _, _, _, _, rfl, hb⟩
theorem GetNo.b {w : World} {E : Ending} {w' : World} (h : GetNo w E w') : GetB w false E w' := ⟨_, _, _, _, _, _, _, _, _, _, _, _, _, _, h.1, h.2⟩

set_option maxRecDepth 100000 in
set_option maxHeartbeats 8000000 in
theorem gets_main (g : Bool) (x : Nat) (b : Int) (s : ByteArray) (la : Option Addr) (lc : Nat) (ka : Option Addr) (kc : Nat) (keys : List ByteArray) (kids : List VT) (kb koff bb off : Nat) (name : ByteArray) (w : World) (hT : Tb w) (hlen : keys.length = kids.length) (h4 : kids.length ≤ 400)
    (hKK : KeysL w ka keys kb koff) (hK : Kids w la kids bb off) (hkb : 0 < keys.length → kb < w.heap.size) (q : Bool) (hq : anyTo keys name keys.length = q)
    (k1 : ∀ W, Below w.heap.size w W → Calls Tryd.prog 9 #[V10 8 g (lb 0 x) (lb 1 x) (lb 2 x) (lb 3 x) b s la kids.length lc ka keys.length kc] W fun e w' => e = .returned (.bool true) ∧ Below W.heap.size W w')
    (k2 : ∀ W, Below w.heap.size w W → Calls Tryd.prog 7 #[V10 8 g (lb 0 x) (lb 1 x) (lb 2 x) (lb 3 x) b s la kids.length lc ka keys.length kc] W fun e w' => e = .returned (.int .i64 0) ∧ Below W.heap.size W w')
    (k3 : ∀ (i : Nat) (key : ByteArray) (t : VT), keys[i]? = some key → kids[i]? = some t → ∀ W, Below w.heap.size w W → Calls Tryd.prog 10 #[V10 8 g (lb 0 x) (lb 1 x) (lb 2 x) (lb 3 x) b s la kids.length lc ka keys.length kc, .string key] W (GetYes W t))
    (k4 : ∀ W, Below w.heap.size w W → Calls Tryd.prog 10 #[V10 8 g (lb 0 x) (lb 1 x) (lb 2 x) (lb 3 x) b s la kids.length lc ka keys.length kc, .string name] W (GetB W q)) :
    Calls Tryd.prog 4 #[V10 8 g (lb 0 x) (lb 1 x) (lb 2 x) (lb 3 x) b s la kids.length lc ka keys.length kc, .string name] w fun e w' => e = .returned (.bool true) ∧ Below w.heap.size w w' := by
  have HT := Lib.hid hT; have K1 := Lib.hid k1; have K2 := Lib.hid k2; have K3 := Lib.hid k3; have K4 := Lib.hid k4; have HKK := Lib.hid hKK; have HK := Lib.hid hK; have HKB := Lib.hid hkb; have HQ := Lib.hid hq
  have HLN := Lib.hid hlen
  clear hT k1 k2 k3 k4 hKK hK hkb hq hlen
  go_enter Tryd.func4, Tryd.ntmps4
  go_wp2_with fail
  ((with_reducible refine (K1.out _ (bal (Below.refl _ _) _)).mono ?_); rintro e w1 ⟨rfl, hb⟩)
  have B1 := Lib.hid (btr (bal (Below.refl w.heap.size w) _) hb); have X1 := Row10.keep hb (Row10.new w (.int .i64 8) (.bool g) (.int .u64 (lb 0 x)) (.int .u64 (lb 1 x)) (.int .u64 (lb 2 x)) (.int .u64 (lb 3 x)) (.int .u64 b) (.string s) (.slice la kids.length lc) (.slice ka keys.length kc))
  clear hb
  obtain ⟨p0, p1, p2, p3, p4, p5, p6, p7, p8, p9⟩ := X1.parts
  go_wp2_with fail
  ((with_reducible refine (K2.out _ B1.out).mono ?_); rintro e w2 ⟨rfl, hb⟩)
  have B2 := Lib.hid (btr B1.out hb); have X2 := Row10.keep hb X1
  clear hb B1 X1 p0 p1 p2 p3 p4 p5 p6 p7 p8 p9
  have hkn : keys.length ≤ 9223372036854775807 := by have := HLN.out; omega
  go_wp2
  go_loopw [5, 6, 7, 8] (fun p5 i _ _ wr => ∃ k : Nat, k ≤ keys.length ∧ i = .int .i64 k ∧ p5 = .bool (anyTo keys name k) ∧ Hid (Below w.heap.size w wr) ∧ Hid (Row10 wr w.heap.size (.int .i64 8) (.bool g) (.int .u64 (lb 0 x)) (.int .u64 (lb 1 x)) (.int .u64 (lb 2 x)) (.int .u64 (lb 3 x)) (.int .u64 b) (.string s) (.slice la kids.length lc) (.slice ka keys.length kc))) (fun _ i _ _ _ => keys.length - (intOf i).toNat)
  case atStart => exact ⟨0, Nat.zero_le _, rfl, rfl, B2, (show Hid _ from X2)⟩
  case round =>
    obtain ⟨k, hk, rfl, rfl, BW, XW⟩ := hrel
    have X := XW.out
    obtain ⟨p0, p1, p2, p3, p4, p5, p6, p7, p8, p9⟩ := X.parts
    by_cases hlt : k < keys.length
    · obtain ⟨key, hkey, hkm⟩ := key_at hlt
      obtain ⟨t, ht, hm⟩ := kid_at (kids := kids) (k := k) (by have := HLN.out; omega)
      have hrk := HKK.out.cells k key hkey
      obtain rfl : ka = some ⟨kb, koff, none⟩ := HKK.out.ka (by omega)
      have rk : RK wr w.heap.size (.int .i64 8) (.bool g) (.int .u64 (lb 0 x)) (.int .u64 (lb 1 x)) (.int .u64 (lb 2 x)) (.int .u64 (lb 3 x)) (.int .u64 b) (.string s) (.slice la kids.length lc) (.slice (some ⟨kb, koff, none⟩) keys.length kc) kb (koff + k) key := ⟨X, cell_keep BW.out hrk⟩
      have hkbw := HKB.out (by omega)
      have hws := BW.out.size
      have hxl := X.lt
      have HKEY := Lib.hid hkey; have HKID := Lib.hid ht
      clear hkey ht hrk
      go_wp2
      go_cut [7, 8] (fun s7 s8 wx => ∃ p : Nat, s7 = .pointer (some ⟨p, 0, none⟩) ∧ s8 = .bool true ∧ Hid (RX wr t wx p))
      case first =>
        go_region_held3 (fun w' => w'.cell? ⟨w.heap.size, 0, none⟩ = some (.int .i64 8) ∧ w'.cell? ⟨w.heap.size, 1, none⟩ = some (.bool g) ∧ w'.cell? ⟨w.heap.size, 2, none⟩ = some (.int .u64 (lb 0 x)) ∧ w'.cell? ⟨w.heap.size, 3, none⟩ = some (.int .u64 (lb 1 x)) ∧ w'.cell? ⟨w.heap.size, 4, none⟩ = some (.int .u64 (lb 2 x)) ∧ w'.cell? ⟨w.heap.size, 5, none⟩ = some (.int .u64 (lb 3 x)) ∧ w'.cell? ⟨w.heap.size, 6, none⟩ = some (.int .u64 b) ∧ w'.cell? ⟨w.heap.size, 7, none⟩ = some (.string s) ∧ w'.cell? ⟨w.heap.size, 8, none⟩ = some (.slice la kids.length lc) ∧ w'.cell? ⟨w.heap.size, 9, none⟩ = some (.slice (some ⟨kb, koff, none⟩) keys.length kc) ∧ w'.cell? ⟨kb, koff + k, none⟩ = some (.string key))
          ((refine RK.parts ?_; (repeat (first | (with_reducible assumption) | (with_reducible refine RK.alloc ?_ _) | (with_reducible refine RK.drew ?_) | (with_reducible refine RK.set ?_ (by omega) (by omega) _))); done))
          (first | (go_at_call 10; ((with_reducible refine (K3.out k key t HKEY.out HKID.out _ (btr BW.out (by repeat (first | (with_reducible exact Below.refl _ _) | (with_reducible refine bal ?_ _) | (with_reducible refine Below.drew ?_) | (with_reducible refine bdn ?_ _))))).mono ?_); rintro e w3 ⟨kd3, g3, x3, b3, s3, la3, lc3, ka3, kc3, ks3, l3, rfl, hF, hS, hb3⟩; have hb03 : Below wr.heap.size wr w3 := btr (by repeat (first | (with_reducible exact Below.refl _ _) | (with_reducible refine bal ?_ _) | (with_reducible refine Below.drew ?_) | (with_reducible refine bdn ?_ _))) hb3; have rk3 := RK.keep hb03 rk; (first | (refine absorb (P := Row10 w3 wr.heap.size (.int .i64 0) (.bool false) (.int .u64 0) (.int .u64 0) (.int .u64 0) (.int .u64 0) (.int .u64 0) (.string ⟨#[]⟩) (.slice none 0 0) (.slice none 0 0)) (Row10.keep hb3 ?_) (fun Z1 => ?_); (focus ((repeat (first | (with_reducible exact Row10.new _ _ _ _ _ _ _ _ _ _ _) | (with_reducible refine Row10.alloc ?_ _) | (with_reducible refine Row10.drew ?_))); done))) | skip); (first | (obtain ⟨zc0, zc1, zc2, zc3, zc4, zc5, zc6, zc7, zc8, zc9⟩ := Z1.parts; have zf := Z1.free) | skip))))
        all_goals
          go_wp2_with fail
          go_meet
          first
          | with_reducible exact ⟨_, rfl, rfl, Lib.hid (rx_new hF hS hb03)⟩
          | exact ⟨_, rfl, rfl, Lib.hid (rx_set Z1 (Nat.le_refl _) (by simp) hF hS hb03)⟩
      case rest =>
        obtain ⟨pO, rfl, rfl, hrx⟩ := hcut
        obtain ⟨kd3, g3, x3, b3, s3, la3, lc3, ka3, kc3, ks3, l3, hRow, hIn, hS, hb3⟩ := hrx.out
        generalize wc = w3 at *
        have B3 := Lib.hid (btr BW.out hb3)
        have X3 := Row10.keep hb3 X
        have hcell := (HK.out.cells k t HKID.out).keep B3.out
        have hti := (HK.out.ins k t HKID.out).keep B3.out
        have hla : la = some ⟨bb, off, none⟩ := HK.out.la (by have := HLN.out; omega)
        subst hla
        have hkl2 : k < kids.length := by have := HLN.out; omega
        have cqS := fun (d : Nat) (os : Array Obj) => Calls.regrown_of (w := w3) (d := d) (os := os) (rsame (.mk ⟨kd3, g3, x3, b3, s3, la3, lc3, ka3, kc3, ks3⟩ l3) t _ (hIn.keep (below_regrown w3 d os)) (hti.keep (below_regrown w3 d os)))
        rw [hS] at cqS
        clear hrx p0 p1 p2 p3 p4 p5 p6 p7 p8 p9 rk hIn hti hS
        obtain ⟨p0, p1, p2, p3, p4, p5, p6, p7, p8, p9⟩ := X3.parts
        obtain ⟨y0, y1, y2, y3, y4, y5, y6, y7, y8, y9⟩ := hRow.parts
        obtain ⟨o2, l2⟩ := t
        obtain ⟨kd2, g2, x2, b2, s2, la2, lc2, ka2, kc2, ks2⟩ := o2
        simp only [VT.val, VT.cells, VT.o_mk, VT.kids_mk] at cqS
        obtain ⟨c0, c1, c2, c3, c4, c5, c6, c7, c8, c9⟩ := hcell.ten
        clear hcell
        go_upto_region 8 with (fail)
        have r0 := cell_regrown p0
        have r1 := cell_regrown p1
        have r2 := cell_regrown p2
        have r3 := cell_regrown p3
        have r4 := cell_regrown p4
        have r5 := cell_regrown p5
        have r6 := cell_regrown p6
        have r7 := cell_regrown p7
        have r8 := cell_regrown p8
        have r9 := cell_regrown p9
        have e0 := cell_regrown y0
        have e1 := cell_regrown y1
        have e2 := cell_regrown y2
        have e3 := cell_regrown y3
        have e4 := cell_regrown y4
        have e5 := cell_regrown y5
        have e6 := cell_regrown y6
        have e7 := cell_regrown y7
        have e8 := cell_regrown y8
        have e9 := cell_regrown y9
        have d0 := cell_regrown c0
        have d1 := cell_regrown c1
        have d2 := cell_regrown c2
        have d3 := cell_regrown c3
        have d4 := cell_regrown c4
        have d5 := cell_regrown c5
        have d6 := cell_regrown c6
        have d7 := cell_regrown c7
        have d8 := cell_regrown c8
        have d9 := cell_regrown c9
        clear p0 p1 p2 p3 p4 p5 p6 p7 p8 p9 y0 y1 y2 y3 y4 y5 y6 y7 y8 y9 c0 c1 c2 c3 c4 c5 c6 c7 c8 c9 hRow
        refine wp_region_quiet_below (by kernel_rfl) (by kernel_rfl) ?_
        repeat (first | go_big_quiet_step ((first | with_reducible exact cqS _ _)) | quiet_step (first | with_reducible exact cqS _ _))
        refine wpQuiet_nil ?_
        intro _ hw'
        obtain ⟨⟨dq, osq⟩, hw''⟩ := hw'
        subst hw''
        clear r0 r1 r2 r3 r4 r5 r6 r7 r8 r9 e0 e1 e2 e3 e4 e5 e6 e7 e8 e9 d0 d1 d2 d3 d4 d5 d6 d7 d8 d9 cqS
        have hb := below_regrown w3 dq osq
        generalize grow (redrawn w3 dq) osq = w4 at *
        have B4 := Lib.hid (btr B3.out hb)
        have X4 := Row10.keep hb X3
        clear hb B3 X3 hb3 X XW
        obtain ⟨p0, p1, p2, p3, p4, p5, p6, p7, p8, p9⟩ := X4.parts
        have hrk4 := cell_keep B4.out (HKK.out.cells k key HKEY.out)
        have HN := Lib.hid (anyTo_next (name := name) HKEY.out)
        clear p0 p1 p2 p3 p4 p5 p6 p7
        have hlt' : (k : Int) < (keys.length : Int) := by omega
        cases ha : anyTo keys name k with
        | true =>
          rw [ha] at HN
          have HA := Lib.hid ha
          clear ha
          go_wp2
          go_roundw
          case rel => exact ⟨k + 1, by omega, by go_num, by rw [HN.out]; rfl, B4, (show Hid _ from X4)⟩
          case measure => simp [intOf]; omega
        | false =>
          rw [ha] at HN
          have HA := Lib.hid ha
          clear ha
          go_wp2
          go_roundw
          case rel => exact ⟨k + 1, by omega, by go_num, by rw [HN.out]; simp, B4, (show Hid _ from X4)⟩
          case measure => simp [intOf]; omega
    · have hge : ¬ (k : Int) < (keys.length : Int) := by omega
      have hkk : k = keys.length := by omega
      have HQ2 := Lib.hid (show anyTo keys name k = q by rw [hkk]; exact HQ.out)
      clear hkk
      have hq2 := HQ2.out
      rw [hq2]
      clear hq2
      go_wp2_with fail
      ((with_reducible refine (K4.out _ BW.out).mono ?_); rintro e w3 ⟨kd3, g3, y0, y1, y2, y3, b3, s3, la3, n3, lc3, ka3, m3, kc3, rfl, hb⟩)
      have B3 := Lib.hid (btr BW.out hb)
      clear hb p0 p1 p2 p3 p4 p5 p6 p7 p8 p9 X XW
      cases q with
      | true =>
        go_wp2_with fail
        ((with_reducible refine (told6_true _ (tb_on HT.out (bal B3.out _))).mono ?_); rintro e w4 ⟨rfl, hb⟩)
        have B4 := Lib.hid (btr (bal B3.out _) hb)
        clear hb
        go_wp2
        go_ret
        exact ⟨rfl, B4.out⟩
      | false =>
        go_wp2_with fail
        ((with_reducible refine (told6_true _ (tb_on HT.out (bal B3.out _))).mono ?_); rintro e w4 ⟨rfl, hb⟩)
        have B4 := Lib.hid (btr (bal B3.out _) hb)
        clear hb
        go_wp2
        go_ret
        exact ⟨rfl, B4.out⟩
end Go.Proofs.YtjdogiehcgfmjaaDoor
end
section
namespace Go.Proofs.YtjdogiehcgfmjaaDoor
open Go.RowKit Go.Shelf

theorem tri8 : ∀ x y : List UInt8, x < y ∨ x = y ∨ y < x
  | [], [] => .inr (.inl rfl)
  | [], _ :: _ => .inl (List.nil_lt_cons _ _)
  | _ :: _, [] => .inr (.inr (List.nil_lt_cons _ _))
  | a :: x, b :: y => by
    rcases Nat.lt_trichotomy a.toNat b.toNat with h | h | h
    · exact .inl (List.cons_lt_cons_iff.2 (.inl (UInt8.lt_iff_toNat_lt.2 h)))
    · obtain rfl := UInt8.toNat_inj.1 h
      rcases tri8 x y with h | h | h
      · exact .inl (List.cons_lt_cons_iff.2 (.inr ⟨rfl, h⟩))
      · exact .inr (.inl (by rw [h]))
      · exact .inr (.inr (List.cons_lt_cons_iff.2 (.inr ⟨rfl, h⟩)))
    · exact .inr (.inr (List.cons_lt_cons_iff.2 (.inl (UInt8.lt_iff_toNat_lt.2 h))))
theorem less_of : ∀ x y : List UInt8, x < y → Op.bytesLess x y = true
  | [], [], h => absurd h (List.lt_irrefl _)
  | [], _ :: _, _ => by simp [Op.bytesLess]
  | _ :: _, [], h => absurd h (List.not_lt_nil _)
  | a :: x, b :: y, h => by
    rw [Op.bytesLess]
    rcases List.cons_lt_cons_iff.1 h with h1 | ⟨rfl, h1⟩
    · simp [h1]
    · simp [less_of x y h1]
theorem leS_no {a b : ByteArray} (h : leS a b = false) : b.toList < a.toList := by
  unfold leS at h
  rw [Bool.or_eq_false_iff, beq_eq_false_iff_ne] at h
  rcases tri8 a.toList b.toList with h1 | h1 | h1
  · rw [less_of _ _ h1] at h; exact absurd h.1 (by simp)
  · exact absurd h1 h.2
  · exact h1
/-- Names that rise are apart. -/
theorem names_rise {keys : List ByteArray} (h : namesB keys = true) : ∀ (j i : Nat) (a b : ByteArray), i < j → keys[i]? = some a → keys[j]? = some b → a.toList < b.toList := by
  unfold namesB at h
  rw [List.all_eq_true] at h
  intro j
  induction j with
  | zero => intro i a b hi; omega
  | succ j ih =>
    intro i a b hi ha hb
    have hlt := (List.getElem?_eq_some_iff.1 hb).1
    have hc : keys[j]? = some keys[j] := List.getElem?_eq_getElem (by omega)
    have hk := h (j + 1) (List.mem_range.2 hlt)
    unfold keyOk at hk
    rw [getD_at hb, Nat.add_sub_cancel, getD_at hc, Bool.and_eq_true] at hk
    have h2 := hk.2
    have h3 : leS b keys[j] = false := by simpa using h2
    have h4 := leS_no h3
    by_cases hij : i = j
    · subst hij
      rw [hc] at ha
      cases ha
      exact h4
    · exact List.lt_trans (ih i a keys[j] (by omega) ha hc) h4
theorem names_find {keys : List ByteArray} (h : namesB keys = true) {i : Nat} {a : ByteArray} (ha : keys[i]? = some a) : idxN keys a = i :=
  idxN_hit ha (by simp) fun j hj k' hk' => by
    rw [beq_eq_false_iff_ne]
    intro e
    have := names_rise h i j k' a hj hk' ha
    rw [← e] at this
    exact List.lt_irrefl _ this
theorem idxN_any {keys : List ByteArray} {name : ByteArray} : (0 ≤ idxN keys name ↔ anyTo keys name keys.length = true) ∧ (0 ≤ idxN keys name → (idxN keys name).toNat < keys.length) := by
  unfold idxN
  cases hf : keys.findIdx? (fun k => name.toList == k.toList) with
  | none =>
    rw [List.findIdx?_eq_none_iff] at hf
    refine ⟨⟨fun h => absurd h (by decide), fun h => ?_⟩, fun h => absurd h (by decide)⟩
    unfold anyTo at h
    rw [List.take_length, List.any_eq_true] at h
    obtain ⟨s, hs, he⟩ := h
    have := hf s hs
    simp only [beq_iff_eq] at he
    rw [he] at this
    simp at this
  | some i =>
    rw [List.findIdx?_eq_some_iff_getElem] at hf
    obtain ⟨hl, he, _⟩ := hf
    refine ⟨⟨fun _ => ?_, fun _ => Int.natCast_nonneg _⟩, fun _ => by simpa using hl⟩
    unfold anyTo
    rw [List.take_length, List.any_eq_true]
    refine ⟨keys[i], List.getElem_mem hl, ?_⟩
    simp only [beq_iff_eq] at he ⊢
    exact he.symm
theorem may_right6 {T : VT} (h : mayN T = 0) : hasT wrongT T = false := by
  unfold mayN at h
  by_cases h1 : 16 < T.depth
  · rw [if_pos h1] at h; cases h
  rw [if_neg h1] at h
  cases h2 : hasT overT T with
  | true => rw [h2, if_pos rfl] at h; cases h
  | false =>
    rw [h2, if_neg (by simp)] at h
    cases h3 : hasT wrongT T with
    | true => rw [h3, if_pos rfl] at h; cases h
    | false => rfl
/-- A map that may be has as many names as values, and they rise. -/
theorem map_names {o : Own} {kids : List VT} (h : mayN (.mk o kids) = 0) (hk : o.kind = 8) : o.keys.length = kids.length ∧ namesB o.keys = true := by
  have h1 := (hasT_false (may_right6 h)).1
  have h2 : ownB o kids.length = true := by
    unfold wrongT at h1
    simpa using h1
  unfold ownB at h2
  rw [Bool.and_eq_true] at h2
  have h3 := h2.2
  unfold restB at h3
  rw [if_neg (by omega), if_neg (by omega), if_neg (by omega), if_neg (by omega), if_neg (by omega), if_pos hk, Bool.and_eq_true, decide_eq_true_iff] at h3
  exact h3

/-- The law, for any value and any name. -/
theorem gets_any (T : VT) (name : ByteArray) (w : World) (hI : T.In w) (hT : Tb w) :
    Calls Tryd.prog 4 #[T.val, .string name] w fun e w' => e = .returned (.bool true) ∧ Below w.heap.size w w' := by
  have k1 := fun W (hb : Below w.heap.size w W) => vfew T W (hI.keep hb)
  cases hf : fewOk T with
  | false =>
    rw [hf] at k1
    obtain ⟨o, kids⟩ := T
    exact gets_few _ _ _ _ _ _ _ _ _ _ _ _ _ _ name w hT k1
  | true =>
    rw [hf] at k1
    obtain ⟨hQ, hn, hd, hE⟩ := few_all hf hI hT
    have k2 := fun W (hb : Below w.heap.size w W) => vmay T (by omega) W (hQ.keep hb)
    have hg := fun nm W (hb : Below w.heap.size w W) => vget T hE hn nm W (hI.keep hb)
    obtain ⟨o, kids⟩ := T
    by_cases hk : o.kind = 8
    · by_cases hm : mayN (.mk o kids) = 0
      · rw [hm] at k2
        obtain ⟨h1, h2⟩ := map_names hm hk
        have hl4 : kids.length ≤ 400 := by have := VT.length_nodes o kids; omega
        obtain ⟨kb, koff, hKK⟩ := hI.keys'
        obtain ⟨bb, off, hK⟩ := hI.kids'
        have hkb : 0 < o.keys.length → kb < w.heap.size := fun h => by
          obtain ⟨s, hs, _⟩ := key_at h
          exact cell_lt (hKK.cells 0 s hs)
        have k3 : ∀ (i : Nat) (key : ByteArray) (t : VT), o.keys[i]? = some key → kids[i]? = some t → ∀ W, Below w.heap.size w W → Calls Tryd.prog 10 #[(VT.mk o kids).val, .string key] W (GetYes W t) := by
          intro i key t hi ht W hb
          have := hg key W hb
          have e : getT (.mk o kids) key = some t := by
            show getO o.kind o.keys kids key = some t
            unfold getO
            rw [names_find h2 hi, if_pos ⟨hk, by omega⟩, Int.toNat_natCast, ht]
          rw [e] at this
          exact this
        have k4 : ∀ W, Below w.heap.size w W → Calls Tryd.prog 10 #[(VT.mk o kids).val, .string name] W (GetB W (anyTo o.keys name o.keys.length)) := by
          intro W hb
          have := hg name W hb
          obtain ⟨a1, a2⟩ := idxN_any (keys := o.keys) (name := name)
          by_cases h0 : 0 ≤ idxN o.keys name
          · have hj := a2 h0
            obtain ⟨t, ht, _⟩ := kid_at (kids := kids) (k := (idxN o.keys name).toNat) (by omega)
            have e : getT (.mk o kids) name = some t := by
              show getO o.kind o.keys kids name = some t
              unfold getO
              rw [if_pos ⟨hk, h0⟩, ht]
            rw [e] at this
            rw [a1.1 h0]
            exact this.mono fun _ _ h => GetYes.b h
          · have e : getT (.mk o kids) name = none := by
              show getO o.kind o.keys kids name = none
              unfold getO
              rw [if_neg (fun h => h0 h.2)]
            rw [e] at this
            have e2 : anyTo o.keys name o.keys.length = false := by
              cases h : anyTo o.keys name o.keys.length with
              | false => rfl
              | true => exact absurd (a1.2 h) h0
            rw [e2]
            exact this.mono fun _ _ h => GetNo.b h
        obtain ⟨kd, g, x, b, s, la, lc, ka, kc, keys⟩ := o
        simp only at hk
        subst hk
        exact gets_main g x b s la lc ka kc keys kids kb koff bb off name w hT h1 hl4 hKK hK hkb _ rfl k1 k2 k3 k4
      · exact gets_may _ _ _ _ _ _ _ _ _ _ _ _ _ _ name w hT (by rw [bne_eq_false_iff_eq]; exact hk) _ (by rw [bne_iff_ne]; exact hm) k1 k2
    · exact gets_kind _ _ _ _ _ _ _ _ _ _ _ _ _ _ name w hT (by rw [bne_iff_ne]; exact hk) k1
end Go.Proofs.YtjdogiehcgfmjaaDoor
end
