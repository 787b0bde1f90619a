/-
  value.Get: the contract, of a value whose parts are few.
-/
import Derived.Test.YtjdogiehcgfmjaaGreatDoorValClone
namespace Go.Proofs.YtjdogiehcgfmjaaGreatDoor
open Go.RowKit Go.Shelf

/-- What Get answers: a member's copy, and true; or nothing. -/
def GetNo (w : World) (E : Ending) (w' : World) : Prop := E = .returned (.tuple #[Z10, .bool false]) ∧ Below w.heap.size w w'
def GetYes (w : World) (t : VT) (E : Ending) (w' : World) : Prop :=
  ∃ (kd : Int) (g : Bool) (x : Nat) (b : Int) (s : ByteArray) (la : Option Addr) (lc : Nat) (ka : Option Addr) (kc : Nat) (ks : List ByteArray) (l : List VT),
    E = .returned (.tuple #[V10 kd g (lb 0 x) (lb 1 x) (lb 2 x) (lb 3 x) b s la l.length lc ka ks.length kc, .bool true]) ∧ (VT.mk ⟨kd, g, x, b, s, la, lc, ka, kc, ks⟩ l).From w.heap.size w' ∧ sameT (.mk ⟨kd, g, x, b, s, la, lc, ka, kc, ks⟩ l) t = true ∧ Below w.heap.size w w'

set_option maxRecDepth 100000 in
set_option maxHeartbeats 4000000 in
theorem vget_kind (kd : Int) (g : Bool) (x : Nat) (b : Int) (s : ByteArray) (la : Option Addr) (n lc : Nat) (ka : Option Addr) (m kc : Nat) (name : ByteArray) (w : World) (hk : (kd != 8) = true) :
    Calls Tryz.prog 19 #[V10 kd g (lb 0 x) (lb 1 x) (lb 2 x) (lb 3 x) b s la n lc ka m kc, .string name] w (GetNo w) := by
  go_enter Tryz.func19, Tryz.ntmps19
  go_wp2
  exact bodyPost_ret (v := .tuple #[Z10, .bool false]) (by simp [results, Tryz.results19, go_sem]) rfl ⟨rfl, bal (bal (Below.refl _ _) _) _⟩
set_option maxRecDepth 100000 in
set_option maxHeartbeats 4000000 in
theorem vget_neg (kd : Int) (g : Bool) (x : Nat) (b : Int) (s : ByteArray) (la : Option Addr) (n lc : Nat) (ka : Option Addr) (m kc : Nat) (name : ByteArray) (w : World) (hk : (kd != 8) = false) (i : Int) (hi : i < 0)
    (k1 : ∀ W, Below w.heap.size w W → Calls Tryz.prog 50 #[.slice ka m kc, .string name] W fun e w' => e = .returned (.int .i64 i) ∧ W = w') :
    Calls Tryz.prog 19 #[V10 kd g (lb 0 x) (lb 1 x) (lb 2 x) (lb 3 x) b s la n lc ka m kc, .string name] w (GetNo w) := by
  have K1 := Lib.hid k1
  clear k1
  go_enter Tryz.func19, Tryz.ntmps19
  go_wp2_with (go_at_call 50; ((with_reducible refine (K1.out _ (bal (bal (Below.refl _ _) _) _)).mono ?_); rintro e w1 ⟨rfl, rfl⟩))
  exact bodyPost_ret (v := .tuple #[Z10, .bool false]) (by simp [results, Tryz.results19, go_sem]) rfl ⟨rfl, bal (bal (Below.refl _ _) _) _⟩
set_option maxRecDepth 100000 in
set_option maxHeartbeats 4000000 in
theorem vget_out (kd : Int) (g : Bool) (x : Nat) (b : Int) (s : ByteArray) (la : Option Addr) (n lc : Nat) (ka : Option Addr) (m kc : Nat) (name : ByteArray) (w : World) (hk : (kd != 8) = false) (i : Int) (hi0 : ¬ i < 0) (hi : (n : Int) ≤ i)
    (k1 : ∀ W, Below w.heap.size w W → Calls Tryz.prog 50 #[.slice ka m kc, .string name] W fun e w' => e = .returned (.int .i64 i) ∧ W = w') :
    Calls Tryz.prog 19 #[V10 kd g (lb 0 x) (lb 1 x) (lb 2 x) (lb 3 x) b s la n lc ka m kc, .string name] w (GetNo w) := by
  have K1 := Lib.hid k1
  clear k1
  go_enter Tryz.func19, Tryz.ntmps19
  go_wp2_with (go_at_call 50; ((with_reducible refine (K1.out _ (bal (bal (Below.refl _ _) _) _)).mono ?_); rintro e w1 ⟨rfl, rfl⟩))
  exact bodyPost_ret (v := .tuple #[Z10, .bool false]) (by simp [results, Tryz.results19, go_sem]) rfl ⟨rfl, bal (bal (Below.refl _ _) _) _⟩
set_option maxRecDepth 100000 in
set_option maxHeartbeats 4000000 in
theorem vget_at (kd : Int) (g : Bool) (x : Nat) (b : Int) (s : ByteArray) (n lc : Nat) (ka : Option Addr) (m kc : Nat) (name : ByteArray) (w : World) (hk : (kd != 8) = false) (i : Nat) (hi : i < n) (bb off : Nat)
    (kd2 : Int) (g2 : Bool) (x2 : Nat) (b2 : Int) (s2 : ByteArray) (la2 : Option Addr) (lc2 : Nat) (ka2 : Option Addr) (kc2 : Nat) (ks2 : List ByteArray) (l2 : List VT)
    (hc : Cells10 w bb (off + i * 10) (.mk ⟨kd2, g2, x2, b2, s2, la2, lc2, ka2, kc2, ks2⟩ l2))
    (k1 : ∀ W, Below w.heap.size w W → Calls Tryz.prog 50 #[.slice ka m kc, .string name] W fun e w' => e = .returned (.int .i64 (i : Nat)) ∧ W = w')
    (k2 : ∀ W, Below w.heap.size w W → Calls Tryz.prog 51 #[V10 kd2 g2 (lb 0 x2) (lb 1 x2) (lb 2 x2) (lb 3 x2) b2 s2 la2 l2.length lc2 ka2 ks2.length kc2] W (CloneV W (.mk ⟨kd2, g2, x2, b2, s2, la2, lc2, ka2, kc2, ks2⟩ l2))) :
    Calls Tryz.prog 19 #[V10 kd g (lb 0 x) (lb 1 x) (lb 2 x) (lb 3 x) b s (some ⟨bb, off, none⟩) n lc ka m kc, .string name] w (GetYes w (.mk ⟨kd2, g2, x2, b2, s2, la2, lc2, ka2, kc2, ks2⟩ l2)) := by
  have hc' := hc.keep ((Own2.start w kd g x b s (.slice (some ⟨bb, off, none⟩) n lc) (.slice ka m kc)).below)
  obtain ⟨c0, c1, c2, c3, c4, c5, c6, c7, c8, c9⟩ := hc'.ten
  have K1 := Lib.hid k1; have K2 := Lib.hid k2
  clear k1 k2 hc hc'
  go_enter Tryz.func19, Tryz.ntmps19
  go_wp2_with (go_at_call 50; ((with_reducible refine (K1.out _ (bal (bal (Below.refl _ _) _) _)).mono ?_); rintro e w1 ⟨rfl, rfl⟩))
  ((with_reducible refine (K2.out _ (bal (bal (Below.refl _ _) _) _)).mono ?_); rintro e w3 ⟨kd3, g3, x3, b3, s3, la3, lc3, ka3, kc3, ks3, l3, rfl, hF, hS, hb3⟩)
  have O3 := Lib.hid (Own2.keep (Own2.start w kd g x b s (.slice (some ⟨bb, off, none⟩) n lc) (.slice ka m kc)) hb3)
  have HF := Lib.hid hF; have HS := Lib.hid hS
  clear hb3 hF hS c0 c1 c2 c3 c4 c5 c6 c7 c8 c9
  obtain ⟨z0, z1, z2, z3, z4, z5, z6, z7, z8, z9⟩ := O3.out.zero.parts
  have zf := O3.out.zero.free
  have hzl := O3.out.zero.lt
  go_wp2
  have RN := (O3.out.zero.set10 (.int .i64 kd3) (.bool g3) (.int .u64 (lb 0 x3)) (.int .u64 (lb 1 x3)) (.int .u64 (lb 2 x3)) (.int .u64 (lb 3 x3)) (.int .u64 b3) (.string s3) (.slice la3 l3.length lc3) (.slice ka3 ks3.length kc3)).parts
  obtain ⟨q0, q1, q2, q3, q4, q5, q6, q7, q8, q9⟩ := RN
  have FN := (HF.out.mono (show w.heap.size + 2 ≤ _ by simp)).kept (kept_put10 (c := w.heap.size + 1) (p := 0) (v0 := .int .i64 kd3) (v1 := .bool g3) (v2 := .int .u64 (lb 0 x3)) (v3 := .int .u64 (lb 1 x3)) (v4 := .int .u64 (lb 2 x3)) (v5 := .int .u64 (lb 3 x3)) (v6 := .int .u64 b3) (v7 := .string s3) (v8 := .slice la3 l3.length lc3) (v9 := .slice ka3 ks3.length kc3) (by omega))
  exact bodyPost_ret (v := .tuple #[V10 kd3 g3 (lb 0 x3) (lb 1 x3) (lb 2 x3) (lb 3 x3) b3 s3 la3 l3.length lc3 ka3 ks3.length kc3, .bool true]) (by simp [results, Tryz.results19, go_sem, q0, q1, q2, q3, q4, q5, q6, q7, q8, q9]) rfl
    ⟨kd3, g3, x3, b3, s3, la3, lc3, ka3, kc3, ks3, l3, rfl, FN.mono (by omega), HS.out, vbsc10 O3.out.below (by omega) _ _ _ _ _ _ _ _ _ _⟩

/-- A map's member by its name. -/
def getO (kd : Int) (keys : List ByteArray) (kids : List VT) (name : ByteArray) : Option VT := if kd = 8 ∧ 0 ≤ idxN keys name then kids[(idxN keys name).toNat]? else none
def getT (T : VT) (name : ByteArray) : Option VT := getO T.o.kind T.o.keys T.kids name
def GetIs (r : Option VT) (w : World) (E : Ending) (w' : World) : Prop :=
  match r with
  | some t => GetYes w t E w'
  | none => GetNo w E w'
/-- value.Get, of a value whose parts are few. -/
theorem vget (T : VT) (hE : T.Every TinyO) (hn : T.nodes ≤ 400) (name : ByteArray) (w : World) (hI : T.In w) : Calls Tryz.prog 19 #[T.val, .string name] w (GetIs (getT T name) w) := by
  obtain ⟨o, kids⟩ := T
  obtain ⟨kb, koff, hKK⟩ := hI.keys'
  obtain ⟨bb, off, hK⟩ := hI.kids'
  have hl := VT.length_nodes o kids
  have hnk := fun t (h : t ∈ kids) => VT.nodes_kid (o := o) h
  have k1 := fun W (hb : Below w.heap.size w W) => kfind o.ka o.kcap o.keys kb koff name W (hKK.keep hb)
  obtain ⟨kd, g, x, b, s, la, lc, ka, kc, keys⟩ := o
  show Calls _ _ _ w (GetIs (getO kd keys kids name) w)
  simp only at k1
  by_cases hk : kd = 8
  · have hk' : (kd != 8) = false := by rw [bne_eq_false_iff_eq]; exact hk
    by_cases h0 : idxN keys name < 0
    · have e : getO kd keys kids name = none := by unfold getO; rw [if_neg (by omega)]
      rw [e]
      exact vget_neg kd g x b s la kids.length lc ka keys.length kc name w hk' _ h0 k1
    · obtain ⟨j, hj⟩ : ∃ j : Nat, idxN keys name = j := ⟨(idxN keys name).toNat, by omega⟩
      have e : getO kd keys kids name = kids[j]? := by unfold getO; rw [if_pos ⟨hk, by omega⟩, hj, Int.toNat_natCast]
      rw [e]
      rw [hj] at k1
      by_cases h1 : j < kids.length
      · obtain ⟨t, ht, hm⟩ := kid_at h1
        rw [ht]
        have hc := hK.cells j t ht
        have hti := hK.ins j t ht
        have hla : la = some ⟨bb, off, none⟩ := hK.la (by omega)
        subst hla
        have k2 := fun W (hb : Below w.heap.size w W) => (vclone t (hE.mem hm) (by have := hnk t hm; omega) W (hti.keep hb)).mono fun _ _ h => h.v
        obtain ⟨⟨kd2, g2, x2, b2, s2, la2, lc2, ka2, kc2, ks2⟩, l2⟩ := t
        exact vget_at kd g x b s kids.length lc ka keys.length kc name w hk' j h1 bb off kd2 g2 x2 b2 s2 la2 lc2 ka2 kc2 ks2 l2 hc k1 k2
      · rw [List.getElem?_eq_none (by omega)]
        exact vget_out kd g x b s la kids.length lc ka keys.length kc name w hk' j (by omega) (by omega) k1
  · have e : getO kd keys kids name = none := by unfold getO; rw [if_neg (fun h => hk h.1)]
    rw [e]
    exact vget_kind kd g x b s la kids.length lc ka keys.length kc name w (by rw [bne_iff_ne]; exact hk)
end Go.Proofs.YtjdogiehcgfmjaaGreatDoor
