/-
  value.isProtoNumber, notJSON, notProto, In: the contracts.
-/
import Derived.Test.YtebfggiodhaahaaGreatDoorGM
namespace Go.Proofs.YtebfggiodhaahaaGreatDoor
open Go.RowKit Go.Shelf

theorem isproto_core (g : Bool) (x0 x1 x2 x3 v1 v2 : Int) (b1 b2 b3 : Bool) (w : World) (hT : Tb w)
    (k1 : ∀ W, Calls Tryz.prog 98 #[.agg #[.bool g, .int .u64 x0, .int .u64 x1, .int .u64 x2, .int .u64 x3]] W fun e w' => e = .returned (.tuple #[.int .i64 v1, .bool b1]) ∧ Below W.heap.size W w')
    (k2 : ∀ W, Calls Tryz.prog 99 #[.agg #[.bool g, .int .u64 x0, .int .u64 x1, .int .u64 x2, .int .u64 x3]] W fun e w' => e = .returned (.tuple #[.int .u64 v2, .bool b2]) ∧ Below W.heap.size W w')
    (k3 : ∀ W, Tb W → Calls Tryz.prog 100 #[.agg #[.bool g, .int .u64 x0, .int .u64 x1, .int .u64 x2, .int .u64 x3]] W fun e w' => e = .returned (.bool b3) ∧ Below W.heap.size W w') :
    Calls Tryz.prog 60 #[.agg #[.bool g, .int .u64 x0, .int .u64 x1, .int .u64 x2, .int .u64 x3]] w fun e w' => e = .returned (.bool (b1 || (b2 || b3))) ∧ Below w.heap.size w w' := by
  have K1 := Lib.hid k1; have K2 := Lib.hid k2; have K3 := Lib.hid k3; have HT := Lib.hid hT
  clear k1 k2 k3 hT
  cases b1 <;> cases b2
  all_goals
    go_enter Tryz.func60, Tryz.ntmps60
    go_wp2_with fail
    ((with_reducible refine (K1.out _).mono ?_); rintro e w1 ⟨rfl, hb1⟩)
    have R := Row5.keep hb1 (Row5.new w (.bool g) (.int .u64 x0) (.int .u64 x1) (.int .u64 x2) (.int .u64 x3))
    have B1 := Lib.hid (btr (bal (Below.refl _ w) _) hb1)
    obtain ⟨p0, p1, p2, p3, p4⟩ := R.parts
    clear hb1
    go_wp2_with fail
    ((with_reducible refine (K2.out _).mono ?_); rintro e w2 ⟨rfl, hb2⟩)
    have R2 := Row5.keep hb2 R
    have B2 := Lib.hid (btr B1.out hb2)
    clear p0 p1 p2 p3 p4 R hb2 B1
    obtain ⟨p0, p1, p2, p3, p4⟩ := R2.parts
    first
    | (go_wp2_with (go_at_call 100; ((with_reducible refine (K3.out _ (tb_on HT.out B2.out)).mono ?_); rintro e w4 ⟨rfl, hb4⟩))
       go_ret
       exact ⟨rfl, btr B2.out hb4⟩)
    | (go_wp2
       go_ret
       exact ⟨rfl, B2.out⟩)

/-- Is a whole number one of proto3's, or a double? -/
def protoB (g : Bool) (x : Nat) : Bool :=
  if g = true ∧ x = 0 then false
  else (decide (-9223372036854775808 ≤ (if g then -(x : Int) else x) ∧ (if g then -(x : Int) else x) < 9223372036854775808) || (decide (0 ≤ (if g then -(x : Int) else x) ∧ (if g then -(x : Int) else x) < 18446744073709551616) || exq x))
theorem I5_of (g : Bool) (x : Nat) (h : ¬ (g = true ∧ x = 0)) : I5 g x = Iz (if g then -(x : Int) else x) ∧ (if g then -(x : Int) else (x : Int)).natAbs = x := by
  cases g with
  | false => exact ⟨by simp only [Bool.false_eq_true, if_false]; unfold Iz; rw [decide_eq_false (by omega), Int.natAbs_natCast], by simp⟩
  | true =>
    have : x ≠ 0 := fun e => h ⟨rfl, e⟩
    exact ⟨by simp only [if_true]; unfold Iz; rw [decide_eq_true (by omega), Int.natAbs_neg, Int.natAbs_natCast], by simp⟩
theorem znt_pair (k : IntKind) (z : Int) (b : Bool) : ∃ v, Znt k z b = .tuple #[.int k v, .bool b] := by
  cases b with
  | false => exact ⟨0, rfl⟩
  | true => exact ⟨z, rfl⟩
theorem isproto_any (g : Bool) (x : Nat) (hx : x < 2 ^ 256) (w : World) (hT : Tb w) :
    Calls Tryz.prog 60 #[I5 g x] w fun e w' => e = .returned (.bool (protoB g x)) ∧ Below w.heap.size w w' := by
  by_cases h : g = true ∧ x = 0
  · obtain ⟨rfl, rfl⟩ := h
    have := isproto_core true (lb 0 0) (lb 1 0) (lb 2 0) (lb 3 0) 0 0 false false false w hT toint_bad touint_bad (fun W _ => exact_bad W)
    simpa [protoB] using this
  · obtain ⟨e, hn⟩ := I5_of g x h
    obtain ⟨v1, e1⟩ := znt_pair .i64 (if g then -(x : Int) else x) (decide (-9223372036854775808 ≤ (if g then -(x : Int) else x) ∧ (if g then -(x : Int) else x) < 9223372036854775808))
    obtain ⟨v2, e2⟩ := znt_pair .u64 (if g then -(x : Int) else x) (decide (0 ≤ (if g then -(x : Int) else x) ∧ (if g then -(x : Int) else x) < 18446744073709551616))
    have k1 := fun W => toint_z (if g then -(x : Int) else x) (by rw [hn]; exact hx) W
    have k2 := fun W => touint_z (if g then -(x : Int) else x) (by rw [hn]; exact hx) W
    have k3 := fun W (hT : Tb W) => exact_z (if g then -(x : Int) else x) (by rw [hn]; exact hx) W hT
    rw [e1, ← e] at k1
    rw [e2, ← e] at k2
    rw [hn, ← e] at k3
    have := isproto_core g (lb 0 x) (lb 1 x) (lb 2 x) (lb 3 x) v1 v2 _ _ _ w hT k1 k2 k3
    unfold protoB
    rw [if_neg h]
    exact this

section
variable (g : Bool) (x0 x1 x2 x3 b : Int) (s : ByteArray) (la : Option Addr) (n lc : Nat) (ka : Option Addr) (m kc : Nat) (w : World)
theorem isarray_any (kd : Int) : Calls Tryz.prog 61 #[V10 kd g x0 x1 x2 x3 b s la n lc ka m kc] w fun e w' => e = .returned (.bool (kd == 7)) ∧ Below w.heap.size w w' := by
  go_enter Tryz.func61, Tryz.ntmps61
  go_wp2
  go_ret
  exact ⟨rfl, bal (Below.refl _ _) _⟩
theorem notjson_k6 : Calls Tryz.prog 30 #[V10 6 g x0 x1 x2 x3 b s la n lc ka m kc] w fun e w' => e = .returned (.bool true) ∧ Below w.heap.size w w' := by
  go_enter Tryz.func30, Tryz.ntmps30
  go_wp2
  go_ret
  exact ⟨rfl, bal (Below.refl _ _) _⟩
theorem notjson_k4 (c : Int) (q : Bool) (hq : (c != 1) = q) (hc : ∀ W, Below w.heap.size w W → Calls Tryz.prog 59 #[.int .u64 b] W fun e w' => e = .returned (.int .i64 c) ∧ Below W.heap.size W w') :
    Calls Tryz.prog 30 #[V10 4 g x0 x1 x2 x3 b s la n lc ka m kc] w fun e w' => e = .returned (.bool q) ∧ Below w.heap.size w w' := by
  have HC := Lib.hid hc; have HQ := Lib.hid hq
  clear hc hq
  go_enter Tryz.func30, Tryz.ntmps30
  go_wp2_with (go_at_call 59; ((with_reducible refine (HC.out _ (bal (Below.refl _ _) _)).mono ?_); rintro e w1 ⟨rfl, hb1⟩))
  go_ret
  exact ⟨ret_bool HQ.out, btr (bal (Below.refl _ _) _) hb1⟩
theorem notjson_none (kd : Int) (h4 : (kd == 4) = false) (h6 : (kd == 6) = false) : Calls Tryz.prog 30 #[V10 kd g x0 x1 x2 x3 b s la n lc ka m kc] w fun e w' => e = .returned (.bool false) ∧ Below w.heap.size w w' := by
  go_enter Tryz.func30, Tryz.ntmps30
  go_wp2
  go_ret
  exact ⟨rfl, bal (Below.refl _ _) _⟩
theorem notproto_k1 : Calls Tryz.prog 31 #[V10 1 g x0 x1 x2 x3 b s la n lc ka m kc] w fun e w' => e = .returned (.bool true) ∧ Below w.heap.size w w' := by
  go_enter Tryz.func31, Tryz.ntmps31
  go_wp2
  go_ret
  exact ⟨rfl, bal (Below.refl _ _) _⟩
theorem notproto_k3 (q : Bool) (hc : ∀ W, Below w.heap.size w W → Calls Tryz.prog 60 #[.agg #[.bool g, .int .u64 x0, .int .u64 x1, .int .u64 x2, .int .u64 x3]] W fun e w' => e = .returned (.bool q) ∧ Below W.heap.size W w') :
    Calls Tryz.prog 31 #[V10 3 g x0 x1 x2 x3 b s la n lc ka m kc] w fun e w' => e = .returned (.bool (!q)) ∧ Below w.heap.size w w' := by
  have HC := Lib.hid hc
  clear hc
  go_enter Tryz.func31, Tryz.ntmps31
  go_wp2_with (go_at_call 60; ((with_reducible refine (HC.out _ (bal (Below.refl _ _) _)).mono ?_); rintro e w1 ⟨rfl, hb1⟩))
  go_ret
  exact ⟨rfl, btr (bal (Below.refl _ _) _) hb1⟩
theorem notproto_k7 (q : Bool) (hc : ∀ W, Below w.heap.size w W → Calls Tryz.prog 43 #[.slice la n lc, .func (.func 61) #[] #[]] W fun e w' => e = .returned (.bool q) ∧ Below W.heap.size W w') :
    Calls Tryz.prog 31 #[V10 7 g x0 x1 x2 x3 b s la n lc ka m kc] w fun e w' => e = .returned (.bool q) ∧ Below w.heap.size w w' := by
  have HC := Lib.hid hc
  clear hc
  go_enter Tryz.func31, Tryz.ntmps31
  go_wp2_with (go_at_call 43; ((with_reducible refine (HC.out _ (bal (Below.refl _ _) _)).mono ?_); rintro e w1 ⟨rfl, hb1⟩))
  go_ret
  exact ⟨rfl, btr (bal (Below.refl _ _) _) hb1⟩
theorem notproto_none (kd : Int) (h1 : (kd == 1) = false) (h3 : (kd == 3) = false) (h7 : (kd == 7) = false) : Calls Tryz.prog 31 #[V10 kd g x0 x1 x2 x3 b s la n lc ka m kc] w fun e w' => e = .returned (.bool false) ∧ Below w.heap.size w w' := by
  go_enter Tryz.func31, Tryz.ntmps31
  go_wp2
  go_ret
  exact ⟨rfl, bal (Below.refl _ _) _⟩
theorem vin_may (lang : Int) (kd : Int) (c : Int) (hc : (c != 0) = true) (k1 : ∀ W, Below w.heap.size w W → Calls Tryz.prog 12 #[V10 kd g x0 x1 x2 x3 b s la n lc ka m kc] W fun e w' => e = .returned (.int .i64 c) ∧ Below W.heap.size W w') :
    Calls Tryz.prog 15 #[V10 kd g x0 x1 x2 x3 b s la n lc ka m kc, .int .i64 lang] w fun e w' => e = .returned (.bool false) ∧ Below w.heap.size w w' := by
  have K1 := Lib.hid k1
  clear k1
  go_enter Tryz.func15, Tryz.ntmps15
  go_wp2_with (go_at_call 12; ((with_reducible refine (K1.out _ (bal (Below.refl _ _) _)).mono ?_); rintro e w1 ⟨rfl, hb1⟩))
  go_ret
  exact ⟨rfl, btr (bal (Below.refl _ _) _) hb1⟩
theorem vin_json (kd : Int) (q : Bool) (k1 : ∀ W, Below w.heap.size w W → Calls Tryz.prog 12 #[V10 kd g x0 x1 x2 x3 b s la n lc ka m kc] W fun e w' => e = .returned (.int .i64 0) ∧ Below W.heap.size W w')
    (k2 : ∀ W, Below w.heap.size w W → Calls Tryz.prog 21 #[V10 kd g x0 x1 x2 x3 b s la n lc ka m kc, .func (.func 30) #[] #[]] W fun e w' => e = .returned (.bool q) ∧ Below W.heap.size W w') :
    Calls Tryz.prog 15 #[V10 kd g x0 x1 x2 x3 b s la n lc ka m kc, .int .i64 1] w fun e w' => e = .returned (.bool (!q)) ∧ Below w.heap.size w w' := by
  have K1 := Lib.hid k1
  clear k1
  have K2 := Lib.hid k2
  clear k2
  go_enter Tryz.func15, Tryz.ntmps15
  go_wp2_with fail
  ((with_reducible refine (K1.out _ (bal (Below.refl _ _) _)).mono ?_); rintro e w1 ⟨rfl, hb1⟩)
  have R := Row10.keep hb1 (Row10.new w (.int .i64 kd) (.bool g) (.int .u64 x0) (.int .u64 x1) (.int .u64 x2) (.int .u64 x3) (.int .u64 b) (.string s) (.slice la n lc) (.slice ka m kc))
  have B1 := Lib.hid (btr (bal (Below.refl _ w) _) hb1)
  obtain ⟨p0, p1, p2, p3, p4, p5, p6, p7, p8, p9⟩ := R.parts
  clear hb1 R
  go_wp2_with (go_at_call 21; ((with_reducible refine (K2.out _ B1.out).mono ?_); rintro e w2 ⟨rfl, hb2⟩))
  go_ret
  exact ⟨rfl, btr B1.out hb2⟩
theorem vin_cbor (kd : Int) (k1 : ∀ W, Below w.heap.size w W → Calls Tryz.prog 12 #[V10 kd g x0 x1 x2 x3 b s la n lc ka m kc] W fun e w' => e = .returned (.int .i64 0) ∧ Below W.heap.size W w') :
    Calls Tryz.prog 15 #[V10 kd g x0 x1 x2 x3 b s la n lc ka m kc, .int .i64 2] w fun e w' => e = .returned (.bool true) ∧ Below w.heap.size w w' := by
  have K1 := Lib.hid k1
  clear k1
  go_enter Tryz.func15, Tryz.ntmps15
  go_wp2_with fail
  ((with_reducible refine (K1.out _ (bal (Below.refl _ _) _)).mono ?_); rintro e w1 ⟨rfl, hb1⟩)
  have R := Row10.keep hb1 (Row10.new w (.int .i64 kd) (.bool g) (.int .u64 x0) (.int .u64 x1) (.int .u64 x2) (.int .u64 x3) (.int .u64 b) (.string s) (.slice la n lc) (.slice ka m kc))
  have B1 := Lib.hid (btr (bal (Below.refl _ w) _) hb1)
  obtain ⟨p0, p1, p2, p3, p4, p5, p6, p7, p8, p9⟩ := R.parts
  clear hb1 R
  go_wp2
  go_ret
  exact ⟨rfl, B1.out⟩
theorem vin_proto (kd : Int) (hk : (kd == 8) = true) (q : Bool) (k1 : ∀ W, Below w.heap.size w W → Calls Tryz.prog 12 #[V10 kd g x0 x1 x2 x3 b s la n lc ka m kc] W fun e w' => e = .returned (.int .i64 0) ∧ Below W.heap.size W w')
    (k2 : ∀ W, Below w.heap.size w W → Calls Tryz.prog 21 #[V10 kd g x0 x1 x2 x3 b s la n lc ka m kc, .func (.func 31) #[] #[]] W fun e w' => e = .returned (.bool q) ∧ Below W.heap.size W w') :
    Calls Tryz.prog 15 #[V10 kd g x0 x1 x2 x3 b s la n lc ka m kc, .int .i64 3] w fun e w' => e = .returned (.bool (!q)) ∧ Below w.heap.size w w' := by
  have K1 := Lib.hid k1
  clear k1
  have K2 := Lib.hid k2
  clear k2
  go_enter Tryz.func15, Tryz.ntmps15
  go_wp2_with fail
  ((with_reducible refine (K1.out _ (bal (Below.refl _ _) _)).mono ?_); rintro e w1 ⟨rfl, hb1⟩)
  have R := Row10.keep hb1 (Row10.new w (.int .i64 kd) (.bool g) (.int .u64 x0) (.int .u64 x1) (.int .u64 x2) (.int .u64 x3) (.int .u64 b) (.string s) (.slice la n lc) (.slice ka m kc))
  have B1 := Lib.hid (btr (bal (Below.refl _ w) _) hb1)
  obtain ⟨p0, p1, p2, p3, p4, p5, p6, p7, p8, p9⟩ := R.parts
  clear hb1 R
  go_wp2_with (go_at_call 21; ((with_reducible refine (K2.out _ B1.out).mono ?_); rintro e w2 ⟨rfl, hb2⟩))
  go_ret
  exact ⟨rfl, btr B1.out hb2⟩
theorem vin_noproto (kd : Int) (hk : (kd == 8) = false) (k1 : ∀ W, Below w.heap.size w W → Calls Tryz.prog 12 #[V10 kd g x0 x1 x2 x3 b s la n lc ka m kc] W fun e w' => e = .returned (.int .i64 0) ∧ Below W.heap.size W w') :
    Calls Tryz.prog 15 #[V10 kd g x0 x1 x2 x3 b s la n lc ka m kc, .int .i64 3] w fun e w' => e = .returned (.bool false) ∧ Below w.heap.size w w' := by
  have K1 := Lib.hid k1
  clear k1
  go_enter Tryz.func15, Tryz.ntmps15
  go_wp2_with fail
  ((with_reducible refine (K1.out _ (bal (Below.refl _ _) _)).mono ?_); rintro e w1 ⟨rfl, hb1⟩)
  have R := Row10.keep hb1 (Row10.new w (.int .i64 kd) (.bool g) (.int .u64 x0) (.int .u64 x1) (.int .u64 x2) (.int .u64 x3) (.int .u64 b) (.string s) (.slice la n lc) (.slice ka m kc))
  have B1 := Lib.hid (btr (bal (Below.refl _ w) _) hb1)
  obtain ⟨p0, p1, p2, p3, p4, p5, p6, p7, p8, p9⟩ := R.parts
  clear hb1 R
  go_wp2
  go_ret
  exact ⟨rfl, B1.out⟩
theorem vin_none (kd : Int) (lang : Int) (h1 : (lang == 1) = false) (h2 : (lang == 2) = false) (h3 : (lang == 3) = false) (k1 : ∀ W, Below w.heap.size w W → Calls Tryz.prog 12 #[V10 kd g x0 x1 x2 x3 b s la n lc ka m kc] W fun e w' => e = .returned (.int .i64 0) ∧ Below W.heap.size W w') :
    Calls Tryz.prog 15 #[V10 kd g x0 x1 x2 x3 b s la n lc ka m kc, .int .i64 lang] w fun e w' => e = .returned (.bool false) ∧ Below w.heap.size w w' := by
  have K1 := Lib.hid k1
  clear k1
  go_enter Tryz.func15, Tryz.ntmps15
  go_wp2_with fail
  ((with_reducible refine (K1.out _ (bal (Below.refl _ _) _)).mono ?_); rintro e w1 ⟨rfl, hb1⟩)
  have R := Row10.keep hb1 (Row10.new w (.int .i64 kd) (.bool g) (.int .u64 x0) (.int .u64 x1) (.int .u64 x2) (.int .u64 x3) (.int .u64 b) (.string s) (.slice la n lc) (.slice ka m kc))
  have B1 := Lib.hid (btr (bal (Below.refl _ w) _) hb1)
  obtain ⟨p0, p1, p2, p3, p4, p5, p6, p7, p8, p9⟩ := R.parts
  clear hb1 R
  go_wp2
  go_ret
  exact ⟨rfl, B1.out⟩
end

def notJsonT (T : VT) : Bool := decide (T.o.kind = 6) || (decide (T.o.kind = 4) && (((cls T.o.bits.toNat : Nat) : Int) != 1))
def notProtoT (T : VT) : Bool := if T.o.kind = 1 then true else if T.o.kind = 3 then !protoB T.o.g T.o.x else if T.o.kind = 7 then T.kids.any (fun t => t.o.kind == 7) else false
theorem notjson_any (T : VT) (w : World) (hQ : Qv T w) : Calls Tryz.prog 30 #[T.val] w fun e w' => e = .returned (.bool (notJsonT T)) ∧ Below w.heap.size w w' := by
  obtain ⟨o, kids⟩ := T
  obtain ⟨_, _, ⟨hb0, hb1⟩, _, _⟩ := hQ.ins.wf
  rw [val_eq]
  obtain ⟨kd, g, x, b, s, la, lc, ka, kc, ks⟩ := o
  simp only [VT.o_mk] at hb0 hb1 ⊢
  by_cases h6 : kd = 6
  · subst h6
    rw [show notJsonT (.mk ⟨6, g, x, b, s, la, lc, ka, kc, ks⟩ kids) = true from rfl]
    exact notjson_k6 _ _ _ _ _ _ _ _ _ _ _ _ _ w
  by_cases h4 : kd = 4
  · subst h4
    have e : b = ((b.toNat : Nat) : Int) := by omega
    rw [show notJsonT (.mk ⟨4, g, x, b, s, la, lc, ka, kc, ks⟩ kids) = (((cls b.toNat : Nat) : Int) != 1) from rfl]
    exact notjson_k4 _ _ _ _ _ _ _ _ _ _ _ _ _ w _ _ rfl (fun W hb => by
      have := class_any b.toNat (by omega) W (tb_on hQ.tb hb)
      rw [← e] at this
      exact this)
  rw [show notJsonT (.mk ⟨kd, g, x, b, s, la, lc, ka, kc, ks⟩ kids) = false by simp [notJsonT, h4, h6]]
  exact notjson_none _ _ _ _ _ _ _ _ _ _ _ _ _ w kd (beq_eq_false_iff_ne.2 h4) (beq_eq_false_iff_ne.2 h6)
theorem notproto_any (T : VT) (w : World) (hQ : Qv T w) : Calls Tryz.prog 31 #[T.val] w fun e w' => e = .returned (.bool (notProtoT T)) ∧ Below w.heap.size w w' := by
  obtain ⟨o, kids⟩ := T
  obtain ⟨_, hx, _⟩ := hQ.ins.wf
  obtain ⟨bb, off, hL⟩ := hQ.ins.kids'
  rw [val_eq]
  obtain ⟨kd, g, x, b, s, la, lc, ka, kc, ks⟩ := o
  simp only [VT.o_mk] at hx hL ⊢
  by_cases h1 : kd = 1
  · subst h1
    rw [show notProtoT (.mk ⟨1, g, x, b, s, la, lc, ka, kc, ks⟩ kids) = true from rfl]
    exact notproto_k1 _ _ _ _ _ _ _ _ _ _ _ _ _ w
  by_cases h3 : kd = 3
  · subst h3
    rw [show notProtoT (.mk ⟨3, g, x, b, s, la, lc, ka, kc, ks⟩ kids) = !protoB g x from rfl]
    exact notproto_k3 _ _ _ _ _ _ _ _ _ _ _ _ _ w _ (fun W hb => isproto_any g x hx W (tb_on hQ.tb hb))
  by_cases h7 : kd = 7
  · subst h7
    rw [show notProtoT (.mk ⟨7, g, x, b, s, la, lc, ka, kc, ks⟩ kids) = kids.any (fun t => t.o.kind == 7) from rfl]
    exact notproto_k7 _ _ _ _ _ _ _ _ _ _ _ _ _ w _ (fun W hb => vcontains 61 _ (enters_of Tryz.func61 (by kernel_rfl) rfl) _ _ _ kids bb off W (hL.keep hb) (fun t _ W' _ => by
      obtain ⟨o2, l2⟩ := t
      exact isarray_any _ _ _ _ _ _ _ _ _ _ _ _ _ W' _))
  rw [show notProtoT (.mk ⟨kd, g, x, b, s, la, lc, ka, kc, ks⟩ kids) = false by simp [notProtoT, h1, h3, h7]]
  exact notproto_none _ _ _ _ _ _ _ _ _ _ _ _ _ w kd (beq_eq_false_iff_ne.2 h1) (beq_eq_false_iff_ne.2 h3) (beq_eq_false_iff_ne.2 h7)
/-- What value.In answers. -/
def inB (T : VT) (lang : Int) : Bool :=
  if mayN T = 0 then (if lang = 1 then !hasT notJsonT T else if lang = 2 then true else if lang = 3 then decide (T.o.kind = 8) && !hasT notProtoT T else false) else false
/-- value.In. -/
theorem vin (T : VT) (hn : T.nodes ≤ 10000) (lang : Int) (w : World) (hQ : Qv T w) : Calls Tryz.prog 15 #[T.val, .int .i64 lang] w fun e w' => e = .returned (.bool (inB T lang)) ∧ Below w.heap.size w w' := by
  have k1 := fun W (hb : Below w.heap.size w W) => vmay T hn W (hQ.keep hb)
  have kj := fun W (hb : Below w.heap.size w W) => vhas 30 (enters_of Tryz.func30 (by kernel_rfl) rfl) notJsonT Qv (fun o l w h t ht => h.kid t ht) (fun _ _ _ h hb => h.keep hb) (fun _ _ h => h.ins) (fun T w h => notjson_any T w h) T W (hQ.keep hb)
  have kp := fun W (hb : Below w.heap.size w W) => vhas 31 (enters_of Tryz.func31 (by kernel_rfl) rfl) notProtoT Qv (fun o l w h t ht => h.kid t ht) (fun _ _ _ h hb => h.keep hb) (fun _ _ h => h.ins) (fun T w h => notproto_any T w h) T W (hQ.keep hb)
  unfold inB
  by_cases h0 : mayN T = 0
  · rw [if_pos h0]
    rw [h0] at k1
    by_cases l1 : lang = 1
    · subst l1
      rw [if_pos rfl]
      exact vin_json _ _ _ _ _ _ _ _ _ _ _ _ _ w _ _ k1 kj
    rw [if_neg l1]
    by_cases l2 : lang = 2
    · subst l2
      rw [if_pos rfl]
      exact vin_cbor _ _ _ _ _ _ _ _ _ _ _ _ _ w _ k1
    rw [if_neg l2]
    by_cases l3 : lang = 3
    · subst l3
      rw [if_pos rfl]
      by_cases h8 : T.o.kind = 8
      · rw [decide_eq_true h8, Bool.true_and]
        exact vin_proto _ _ _ _ _ _ _ _ _ _ _ _ _ w _ (beq_iff_eq.2 h8) _ k1 kp
      · rw [decide_eq_false h8, Bool.false_and]
        exact vin_noproto _ _ _ _ _ _ _ _ _ _ _ _ _ w _ (beq_eq_false_iff_ne.2 h8) k1
    rw [if_neg l3]
    exact vin_none _ _ _ _ _ _ _ _ _ _ _ _ _ w _ lang (beq_eq_false_iff_ne.2 l1) (beq_eq_false_iff_ne.2 l2) (beq_eq_false_iff_ne.2 l3) k1
  · rw [if_neg h0]
    exact vin_may _ _ _ _ _ _ _ _ _ _ _ _ _ w lang _ _ (bne_iff_ne.2 h0) k1
end Go.Proofs.YtebfggiodhaahaaGreatDoor
