/-
  whole.Print, Parse, said of integers below 2^256 in size; entrepotlaw2.told answers true. The tables math/bits.deBruijn64tab, internal/strconv.uint64pow10 read as their initialisers lay them.
-/
import Derived.Test.YtngmdncidieclaaDoorWholeI
import Derived.Test.YtngmdncidieclaaDoorNatStr
import Derived.Lib.ItoaWalk
namespace Go.Proofs.YtngmdncidieclaaDoor
open Go.RowKit Go.Shelf
attribute [local go_sem ↓] eql_nat neq_nat eql_int5 neq_int5

/-- An integer's decimals. -/
def zstr (z : Int) : ByteArray := if z < 0 then ⟨#[45]⟩ ++ dstr z.natAbs else dstr z.natAbs
theorem wprint_z (z : Int) (hz : z.natAbs < 2 ^ 256) (w : World) (hT : Tab w) :
    Calls Tryd.prog 46 #[Iz z] w fun e w' => e = .returned (.string (zstr z)) ∧ Below w.heap.size w w' := by
  have hm := may_z z hz
  rcases sgn z with ⟨n, rfl⟩ | ⟨n, hn, rfl⟩
  · rw [Iz_nat] at hm ⊢
    have e : zstr (n : Int) = dstr n := by unfold zstr; rw [if_neg (by omega), Int.natAbs_natCast]
    rw [e]
    exact wprint_p _ _ _ _ _ hm (fun W hW => print_str n (by omega) W hW) w hT
  · rw [Iz_neg hn] at hm ⊢
    have e : zstr (-(n : Int)) = ⟨#[45]⟩ ++ dstr n := by unfold zstr; rw [if_pos (by omega), Int.natAbs_neg, Int.natAbs_natCast]
    rw [e]
    exact wprint_n _ _ _ _ _ (by have := dstr_le (x := n) (by omega); omega) hm (fun W hW => print_str n (by omega) W hW) w hT
theorem wprint_bad (w : World) : Calls Tryd.prog 46 #[I5 true 0] w fun e w' => e = .returned (.string ⟨#[]⟩) ∧ Below w.heap.size w w' :=
  wprint_no _ _ _ _ _ (fun W => may_no W) w

/-- What a text is read as. -/
def parseZ (s : ByteArray) : Option Int :=
  match parseN ⟨(Lib.trimPrefix s.data.toList [45]).toArray⟩ with
  | some v => if Lib.hasPrefix s.data.toList [45] then (if v = 0 then none else some (-(v : Int))) else some (v : Int)
  | none => none
def ZEnd (o : Option Int) : Value := match o with
  | some z => .tuple #[Iz z, .bool true]
  | none => .tuple #[Z5, .bool false]
theorem dstep_lt' {x y : Nat} {c : UInt8} (h : dstep x c = some y) : y < 2 ^ 256 := by
  unfold dstep at h
  split at h
  · rename_i hc; cases h; exact hc.2.2
  · cases h
theorem dfold_lt : ∀ (l : List UInt8) (x y : Nat), x < 2 ^ 256 → dfold l x = some y → y < 2 ^ 256
  | [], x, y, hx, h => by simp only [dfold] at h; cases h; exact hx
  | c :: l, x, y, hx, h => by
    simp only [dfold] at h
    cases hd : dstep x c with
    | none => rw [hd] at h; cases h
    | some z => rw [hd] at h; exact dfold_lt l z y (dstep_lt' hd) h
theorem parseN_lt {s : ByteArray} {y : Nat} (h : parseN s = some y) : y < 2 ^ 256 := by
  unfold parseN at h
  split at h
  · cases h
  · exact dfold_lt _ 0 y (by decide) h
theorem trim_len (s p : List UInt8) : (Lib.trimPrefix s p).length ≤ s.length := by
  unfold Lib.trimPrefix
  split
  · rw [List.length_drop]; omega
  · omega
theorem wparse_z (s : ByteArray) (hmax : s.size ≤ 140737488351232) (w : World) :
    Calls Tryd.prog 44 #[.string s] w fun e w' => e = .returned (ZEnd (parseZ s)) ∧ Below w.heap.size w w' := by
  have hcut : ∀ W, Calls Tryd.prog 91 #[.string s, .string ⟨#[45]⟩] W fun e w' => e = .returned (.tuple #[.string ⟨(Lib.trimPrefix s.data.toList [45]).toArray⟩, .bool (Lib.hasPrefix s.data.toList [45])]) ∧ Below W.heap.size W w' := fun W => by
    refine (Tryd.strings_CutPrefix s ⟨#[45]⟩ W).mono ?_
    rintro e w' ⟨rfl, rfl⟩
    exact ⟨rfl, Below.refl _ _⟩
  have hd : (⟨(Lib.trimPrefix s.data.toList [45]).toArray⟩ : ByteArray).size ≤ 140737488351232 := by
    show (Lib.trimPrefix s.data.toList [45]).toArray.size ≤ _
    have := trim_len s.data.toList [45]
    have e : s.data.toList.length = s.size := by simp
    simp only [List.size_toArray]
    omega
  have hparse := fun W => parse_any W ⟨(Lib.trimPrefix s.data.toList [45]).toArray⟩ hd
  unfold parseZ
  unfold ParseEnd at hparse
  cases hp : parseN ⟨(Lib.trimPrefix s.data.toList [45]).toArray⟩ with
  | none =>
    simp only [hp] at hparse ⊢
    exact wparse_no _ _ _ _ _ _ _ hcut hparse w
  | some v =>
    have hv := parseN_lt hp
    simp only [hp] at hparse ⊢
    cases hg : Lib.hasPrefix s.data.toList [45] with
    | false =>
      rw [hg] at hcut
      refine (wparse_yes _ _ _ _ _ _ _ hcut hparse (fun W => ?_) w).mono ?_
      · have := may_z (v : Int) (by omega) W
        rw [Iz_nat] at this
        exact this
      rintro e w' ⟨rfl, hb⟩
      refine ⟨?_, hb⟩
      simp only [Bool.false_eq_true, if_false]
      show _ = Ending.returned (.tuple #[Iz (v : Int), .bool true])
      rw [Iz_nat]
    | true =>
      rw [hg] at hcut
      by_cases h0 : v = 0
      · subst h0
        refine (wparse_bad _ _ _ _ _ _ _ hcut hparse (fun W => may_no W) w).mono ?_
        rintro e w' ⟨rfl, hb⟩
        exact ⟨rfl, hb⟩
      · refine (wparse_yes _ _ _ _ _ _ _ hcut hparse (fun W => ?_) w).mono ?_
        · have := may_z (-(v : Int)) (by omega) W
          rw [Iz_neg h0] at this
          exact this
        rintro e w' ⟨rfl, hb⟩
        refine ⟨?_, hb⟩
        simp only [if_true, h0, if_false]
        show _ = Ending.returned (.tuple #[Iz (-(v : Int)), .bool true])
        rw [Iz_neg h0]

theorem Iz_pos (v : Nat) (h : v < 18446744073709551616) : Iz (v : Int) = .agg #[.bool false, .int .u64 (v : Int), .int .u64 0, .int .u64 0, .int .u64 0] := by
  rw [Iz_nat]
  unfold I5
  obtain ⟨l0, l1, l2, l3⟩ := lb_small (v := (v : Int)) (by omega) (by omega)
  rw [Int.natAbs_natCast] at l0 l1 l2 l3
  rw [l0, l1, l2, l3]
theorem Iz_minus (v : Nat) (h0 : v ≠ 0) (h : v < 18446744073709551616) : Iz (-(v : Int)) = .agg #[.bool true, .int .u64 (v : Int), .int .u64 0, .int .u64 0, .int .u64 0] := by
  rw [Iz_neg h0]
  unfold I5
  obtain ⟨l0, l1, l2, l3⟩ := lb_small (v := (v : Int)) (by omega) (by omega)
  rw [Int.natAbs_natCast] at l0 l1 l2 l3
  rw [l0, l1, l2, l3]
set_option maxHeartbeats 2000000 in
set_option maxRecDepth 100000 in
theorem told2_core (p1 p2 : ByteArray) (w : World)
    (k1 : ∀ W, Below w.heap.size w W → Calls Tryd.prog 51 #[Z5] W fun e w' => e = .returned (.tuple #[.agg #[.bool false, .int .u64 9007199254740993, .int .u64 0, .int .u64 0, .int .u64 0], .bool true]) ∧ Below W.heap.size W w')
    (k2 : ∀ W, Below w.heap.size w W → Calls Tryd.prog 48 #[.agg #[.bool false, .int .u64 9007199254740993, .int .u64 0, .int .u64 0, .int .u64 0]] W fun e w' => e = .returned (.tuple #[.agg #[.bool false, .int .u64 9007199254740994, .int .u64 0, .int .u64 0, .int .u64 0], .bool true]) ∧ Below W.heap.size W w')
    (k3 : ∀ W, Calls Tryd.prog 30 #[.int .i64 (-5)] W fun e w' => e = .returned (.agg #[.bool true, .int .u64 5, .int .u64 0, .int .u64 0, .int .u64 0]) ∧ Below W.heap.size W w')
    (k4 : ∀ W, Calls Tryd.prog 34 #[.agg #[.bool true, .int .u64 5, .int .u64 0, .int .u64 0, .int .u64 0]] W fun e w' => e = .returned (.tuple #[.int .i64 (-5), .bool true]) ∧ Below W.heap.size W w')
    (k5 : ∀ W, Calls Tryd.prog 44 #[.string ⟨#[45, 48]⟩] W fun e w' => e = .returned (.tuple #[Z5, .bool false]) ∧ Below W.heap.size W w')
    (k6 : ∀ W, Below w.heap.size w W → Calls Tryd.prog 46 #[.agg #[.bool false, .int .u64 9007199254740993, .int .u64 0, .int .u64 0, .int .u64 0]] W fun e w' => e = .returned (.string p1) ∧ Below W.heap.size W w')
    (k7 : ∀ W, Below w.heap.size w W → Calls Tryd.prog 46 #[.agg #[.bool false, .int .u64 9007199254740994, .int .u64 0, .int .u64 0, .int .u64 0]] W fun e w' => e = .returned (.string p2) ∧ Below W.heap.size W w')
    (k8 : ∀ W, Calls Tryd.prog 30 #[.int .i64 (-1)] W fun e w' => e = .returned (.agg #[.bool true, .int .u64 1, .int .u64 0, .int .u64 0, .int .u64 0]) ∧ Below W.heap.size W w')
    (k9 : ∀ W, Calls Tryd.prog 43 #[.agg #[.bool true, .int .u64 1, .int .u64 0, .int .u64 0, .int .u64 0], .agg #[.bool false, .int .u64 1, .int .u64 0, .int .u64 0, .int .u64 0]] W fun e w' => e = .returned (.int .i64 (-1)) ∧ Below W.heap.size W w')
    (k10 : ∀ W, Calls Tryd.prog 28 #[.agg #[.bool true, .int .u64 0, .int .u64 0, .int .u64 0, .int .u64 0]] W fun e w' => e = .returned (.bool false) ∧ Below W.heap.size W w')
    (h1 : (p1.toList == [57, 48, 48, 55, 49, 57, 57, 50, 53, 52, 55, 52, 48, 57, 57, 51]) = true) (h2 : (p2.toList == [57, 48, 48, 55, 49, 57, 57, 50, 53, 52, 55, 52, 48, 57, 57, 52]) = true) :
    Calls Tryd.prog 42 #[] w fun e w' => e = .returned (.bool true) ∧ Below w.heap.size w w' := by
  have K1 := Lib.hid k1; clear k1
  have K2 := Lib.hid k2; clear k2
  have K3 := Lib.hid k3; clear k3
  have K4 := Lib.hid k4; clear k4
  have K5 := Lib.hid k5; clear k5
  have K6 := Lib.hid k6; clear k6
  have K7 := Lib.hid k7; clear k7
  have K8 := Lib.hid k8; clear k8
  have K9 := Lib.hid k9; clear k9
  have K10 := Lib.hid k10; clear k10
  go_enter Tryd.func42, Tryd.ntmps42
  go_wp2_with fail
  refine (K1.out _ (by repeat (first | (with_reducible exact Below.refl _ _) | (with_reducible refine bal ?_ _) | (with_reducible refine Below.drew ?_) | (with_reducible refine bdn ?_ _)))).mono ?_
  rintro e w1 ⟨rfl, hb⟩
  have BW1 : Below w.heap.size w w1 := btr (by repeat (first | (with_reducible exact Below.refl _ _) | (with_reducible refine bal ?_ _) | (with_reducible refine Below.drew ?_) | (with_reducible refine bdn ?_ _))) hb
  clear hb
  go_upto_region 2 with (fail)
  go_name_world w2 hw2
  have BW2 : Below w.heap.size w w2 := by rw [← hw2]; repeat (first | (with_reducible exact BW1) | (with_reducible refine bal ?_ _) | (with_reducible refine Below.drew ?_) | (with_reducible refine bdn ?_ _))
  have A2 : Row5 w2 w1.heap.size (.bool false) (.int .u64 9007199254740993) (.int .u64 0) (.int .u64 0) (.int .u64 0) := by rw [← hw2]; exact (by repeat (first | (with_reducible exact Row5.new _ _ _ _ _ _) | ((with_reducible refine Row5.new' _ ?_ _ _ _ _ _); (simp; done)) | (with_reducible refine Row5.alloc ?_ _) | (with_reducible refine Row5.drew ?_)))
  clear BW1
  clear hw2
  obtain ⟨Ac0, Ac1, Ac2, Ac3, Ac4⟩ := A2.parts
  obtain ⟨Af0, Af1, Af2, Af3, Af4⟩ := A2.free
  go_wp2_with fail
  refine (K2.out _ (by repeat (first | (with_reducible exact BW2) | (with_reducible refine bal ?_ _) | (with_reducible refine Below.drew ?_) | (with_reducible refine bdn ?_ _)))).mono ?_
  rintro e w3 ⟨rfl, hb⟩
  have BW3 : Below w.heap.size w w3 := btr (by repeat (first | (with_reducible exact BW2) | (with_reducible refine bal ?_ _) | (with_reducible refine Below.drew ?_) | (with_reducible refine bdn ?_ _))) hb
  have A3 : Row5 w3 w1.heap.size (.bool false) (.int .u64 9007199254740993) (.int .u64 0) (.int .u64 0) (.int .u64 0) := Row5.keep hb (by repeat (first | (with_reducible exact A2) | (with_reducible refine Row5.alloc ?_ _) | (with_reducible refine Row5.drew ?_)))
  clear A2
  clear BW2
  clear hb
  go_upto_region 3 with (fail)
  go_name_world w4 hw4
  have BW4 : Below w.heap.size w w4 := by rw [← hw4]; repeat (first | (with_reducible exact BW3) | (with_reducible refine bal ?_ _) | (with_reducible refine Below.drew ?_) | (with_reducible refine bdn ?_ _))
  have A4 : Row5 w4 w1.heap.size (.bool false) (.int .u64 9007199254740993) (.int .u64 0) (.int .u64 0) (.int .u64 0) := by rw [← hw4]; exact (by repeat (first | (with_reducible exact A3) | (with_reducible refine Row5.alloc ?_ _) | (with_reducible refine Row5.drew ?_)))
  have apB_A := A3.lt
  have apB_0 := (BW3).size
  have B4 : Row5 w4 w3.heap.size (.bool false) (.int .u64 9007199254740994) (.int .u64 0) (.int .u64 0) (.int .u64 0) := by rw [← hw4]; exact (by repeat (first | (with_reducible exact Row5.new _ _ _ _ _ _) | ((with_reducible refine Row5.new' _ ?_ _ _ _ _ _); (simp; done)) | (with_reducible refine Row5.alloc ?_ _) | (with_reducible refine Row5.drew ?_)))
  clear A3
  clear BW3
  clear hw4
  go_wp2_with fail
  (with_reducible refine (K3.out _).mono ?_)
  rintro e w5 ⟨rfl, hb⟩
  have BW5 : Below w.heap.size w w5 := btr (by repeat (first | (with_reducible exact BW4) | (with_reducible refine bal ?_ _) | (with_reducible refine Below.drew ?_) | (with_reducible refine bdn ?_ _))) hb
  have A5 : Row5 w5 w1.heap.size (.bool false) (.int .u64 9007199254740993) (.int .u64 0) (.int .u64 0) (.int .u64 0) := Row5.keep hb (by repeat (first | (with_reducible exact A4) | (with_reducible refine Row5.alloc ?_ _) | (with_reducible refine Row5.drew ?_)))
  have B5 : Row5 w5 w3.heap.size (.bool false) (.int .u64 9007199254740994) (.int .u64 0) (.int .u64 0) (.int .u64 0) := Row5.keep hb (by repeat (first | (with_reducible exact B4) | (with_reducible refine Row5.alloc ?_ _) | (with_reducible refine Row5.drew ?_)))
  clear A4 B4
  clear BW4
  clear hb
  go_wp2_with fail
  (with_reducible refine (K4.out _).mono ?_)
  rintro e w6 ⟨rfl, hb⟩
  have BW6 : Below w.heap.size w w6 := btr (by repeat (first | (with_reducible exact BW5) | (with_reducible refine bal ?_ _) | (with_reducible refine Below.drew ?_) | (with_reducible refine bdn ?_ _))) hb
  have A6 : Row5 w6 w1.heap.size (.bool false) (.int .u64 9007199254740993) (.int .u64 0) (.int .u64 0) (.int .u64 0) := Row5.keep hb (by repeat (first | (with_reducible exact A5) | (with_reducible refine Row5.alloc ?_ _) | (with_reducible refine Row5.drew ?_)))
  have B6 : Row5 w6 w3.heap.size (.bool false) (.int .u64 9007199254740994) (.int .u64 0) (.int .u64 0) (.int .u64 0) := Row5.keep hb (by repeat (first | (with_reducible exact B5) | (with_reducible refine Row5.alloc ?_ _) | (with_reducible refine Row5.drew ?_)))
  clear A5 B5
  clear BW5
  clear hb
  go_wp2_with fail
  (with_reducible refine (K5.out _).mono ?_)
  rintro e w7 ⟨rfl, hb⟩
  have BW7 : Below w.heap.size w w7 := btr (by repeat (first | (with_reducible exact BW6) | (with_reducible refine bal ?_ _) | (with_reducible refine Below.drew ?_) | (with_reducible refine bdn ?_ _))) hb
  have A7 : Row5 w7 w1.heap.size (.bool false) (.int .u64 9007199254740993) (.int .u64 0) (.int .u64 0) (.int .u64 0) := Row5.keep hb (by repeat (first | (with_reducible exact A6) | (with_reducible refine Row5.alloc ?_ _) | (with_reducible refine Row5.drew ?_)))
  have B7 : Row5 w7 w3.heap.size (.bool false) (.int .u64 9007199254740994) (.int .u64 0) (.int .u64 0) (.int .u64 0) := Row5.keep hb (by repeat (first | (with_reducible exact B6) | (with_reducible refine Row5.alloc ?_ _) | (with_reducible refine Row5.drew ?_)))
  clear A6 B6
  clear BW6
  clear hb
  go_upto_region 5 with (fail)
  go_name_world w8 hw8
  have BW8 : Below w.heap.size w w8 := by rw [← hw8]; repeat (first | (with_reducible exact BW7) | (with_reducible refine bal ?_ _) | (with_reducible refine Below.drew ?_) | (with_reducible refine bdn ?_ _))
  have A8 : Row5 w8 w1.heap.size (.bool false) (.int .u64 9007199254740993) (.int .u64 0) (.int .u64 0) (.int .u64 0) := by rw [← hw8]; exact (by repeat (first | (with_reducible exact A7) | (with_reducible refine Row5.alloc ?_ _) | (with_reducible refine Row5.drew ?_)))
  have B8 : Row5 w8 w3.heap.size (.bool false) (.int .u64 9007199254740994) (.int .u64 0) (.int .u64 0) (.int .u64 0) := by rw [← hw8]; exact (by repeat (first | (with_reducible exact B7) | (with_reducible refine Row5.alloc ?_ _) | (with_reducible refine Row5.drew ?_)))
  clear A7 B7
  clear BW7
  clear hw8
  obtain ⟨Ac0, Ac1, Ac2, Ac3, Ac4⟩ := A8.parts
  obtain ⟨Af0, Af1, Af2, Af3, Af4⟩ := A8.free
  go_wp2_with fail
  refine (K6.out _ (by repeat (first | (with_reducible exact BW8) | (with_reducible refine bal ?_ _) | (with_reducible refine Below.drew ?_) | (with_reducible refine bdn ?_ _)))).mono ?_
  rintro e w9 ⟨rfl, hb⟩
  have BW9 : Below w.heap.size w w9 := btr (by repeat (first | (with_reducible exact BW8) | (with_reducible refine bal ?_ _) | (with_reducible refine Below.drew ?_) | (with_reducible refine bdn ?_ _))) hb
  have A9 : Row5 w9 w1.heap.size (.bool false) (.int .u64 9007199254740993) (.int .u64 0) (.int .u64 0) (.int .u64 0) := Row5.keep hb (by repeat (first | (with_reducible exact A8) | (with_reducible refine Row5.alloc ?_ _) | (with_reducible refine Row5.drew ?_)))
  have B9 : Row5 w9 w3.heap.size (.bool false) (.int .u64 9007199254740994) (.int .u64 0) (.int .u64 0) (.int .u64 0) := Row5.keep hb (by repeat (first | (with_reducible exact B8) | (with_reducible refine Row5.alloc ?_ _) | (with_reducible refine Row5.drew ?_)))
  clear A8 B8
  clear BW8
  clear hb
  obtain ⟨Bc0, Bc1, Bc2, Bc3, Bc4⟩ := B9.parts
  obtain ⟨Bf0, Bf1, Bf2, Bf3, Bf4⟩ := B9.free
  go_wp2_with fail
  refine (K7.out _ (by repeat (first | (with_reducible exact BW9) | (with_reducible refine bal ?_ _) | (with_reducible refine Below.drew ?_) | (with_reducible refine bdn ?_ _)))).mono ?_
  rintro e w10 ⟨rfl, hb⟩
  have BW10 : Below w.heap.size w w10 := btr (by repeat (first | (with_reducible exact BW9) | (with_reducible refine bal ?_ _) | (with_reducible refine Below.drew ?_) | (with_reducible refine bdn ?_ _))) hb
  have A10 : Row5 w10 w1.heap.size (.bool false) (.int .u64 9007199254740993) (.int .u64 0) (.int .u64 0) (.int .u64 0) := Row5.keep hb (by repeat (first | (with_reducible exact A9) | (with_reducible refine Row5.alloc ?_ _) | (with_reducible refine Row5.drew ?_)))
  have B10 : Row5 w10 w3.heap.size (.bool false) (.int .u64 9007199254740994) (.int .u64 0) (.int .u64 0) (.int .u64 0) := Row5.keep hb (by repeat (first | (with_reducible exact B9) | (with_reducible refine Row5.alloc ?_ _) | (with_reducible refine Row5.drew ?_)))
  clear A9 B9
  clear BW9
  clear hb
  go_wp2_with fail
  (with_reducible refine (K8.out _).mono ?_)
  rintro e w11 ⟨rfl, hb⟩
  have BW11 : Below w.heap.size w w11 := btr (by repeat (first | (with_reducible exact BW10) | (with_reducible refine bal ?_ _) | (with_reducible refine Below.drew ?_) | (with_reducible refine bdn ?_ _))) hb
  have A11 : Row5 w11 w1.heap.size (.bool false) (.int .u64 9007199254740993) (.int .u64 0) (.int .u64 0) (.int .u64 0) := Row5.keep hb (by repeat (first | (with_reducible exact A10) | (with_reducible refine Row5.alloc ?_ _) | (with_reducible refine Row5.drew ?_)))
  have B11 : Row5 w11 w3.heap.size (.bool false) (.int .u64 9007199254740994) (.int .u64 0) (.int .u64 0) (.int .u64 0) := Row5.keep hb (by repeat (first | (with_reducible exact B10) | (with_reducible refine Row5.alloc ?_ _) | (with_reducible refine Row5.drew ?_)))
  clear A10 B10
  clear BW10
  clear hb
  go_wp2_with fail
  (with_reducible refine (ofUint_any _ _).mono ?_)
  rintro e w12 ⟨rfl, hb⟩
  have BW12 : Below w.heap.size w w12 := btr (by repeat (first | (with_reducible exact BW11) | (with_reducible refine bal ?_ _) | (with_reducible refine Below.drew ?_) | (with_reducible refine bdn ?_ _))) hb
  have A12 : Row5 w12 w1.heap.size (.bool false) (.int .u64 9007199254740993) (.int .u64 0) (.int .u64 0) (.int .u64 0) := Row5.keep hb (by repeat (first | (with_reducible exact A11) | (with_reducible refine Row5.alloc ?_ _) | (with_reducible refine Row5.drew ?_)))
  have B12 : Row5 w12 w3.heap.size (.bool false) (.int .u64 9007199254740994) (.int .u64 0) (.int .u64 0) (.int .u64 0) := Row5.keep hb (by repeat (first | (with_reducible exact B11) | (with_reducible refine Row5.alloc ?_ _) | (with_reducible refine Row5.drew ?_)))
  clear A11 B11
  clear BW11
  clear hb
  go_wp2_with fail
  (with_reducible refine (K9.out _).mono ?_)
  rintro e w13 ⟨rfl, hb⟩
  have BW13 : Below w.heap.size w w13 := btr (by repeat (first | (with_reducible exact BW12) | (with_reducible refine bal ?_ _) | (with_reducible refine Below.drew ?_) | (with_reducible refine bdn ?_ _))) hb
  have A13 : Row5 w13 w1.heap.size (.bool false) (.int .u64 9007199254740993) (.int .u64 0) (.int .u64 0) (.int .u64 0) := Row5.keep hb (by repeat (first | (with_reducible exact A12) | (with_reducible refine Row5.alloc ?_ _) | (with_reducible refine Row5.drew ?_)))
  have B13 : Row5 w13 w3.heap.size (.bool false) (.int .u64 9007199254740994) (.int .u64 0) (.int .u64 0) (.int .u64 0) := Row5.keep hb (by repeat (first | (with_reducible exact B12) | (with_reducible refine Row5.alloc ?_ _) | (with_reducible refine Row5.drew ?_)))
  clear A12 B12
  clear BW12
  clear hb
  go_wp2_with fail
  (with_reducible refine (K10.out _).mono ?_)
  rintro e w14 ⟨rfl, hb⟩
  have BW14 : Below w.heap.size w w14 := btr (by repeat (first | (with_reducible exact BW13) | (with_reducible refine bal ?_ _) | (with_reducible refine Below.drew ?_) | (with_reducible refine bdn ?_ _))) hb
  have A14 : Row5 w14 w1.heap.size (.bool false) (.int .u64 9007199254740993) (.int .u64 0) (.int .u64 0) (.int .u64 0) := Row5.keep hb (by repeat (first | (with_reducible exact A13) | (with_reducible refine Row5.alloc ?_ _) | (with_reducible refine Row5.drew ?_)))
  have B14 : Row5 w14 w3.heap.size (.bool false) (.int .u64 9007199254740994) (.int .u64 0) (.int .u64 0) (.int .u64 0) := Row5.keep hb (by repeat (first | (with_reducible exact B13) | (with_reducible refine Row5.alloc ?_ _) | (with_reducible refine Row5.drew ?_)))
  clear A13 B13
  clear BW13
  clear hb
  go_wp2
  go_ret
  exact ⟨rfl, BW14⟩

theorem told2_true (w : World) (hT : Tabs w) : Calls Tryd.prog 42 #[] w fun e w' => e = .returned (.bool true) ∧ Below w.heap.size w w' := by
  have r0 : rup 0 = ((9007199254740993 : Nat) : Int) := by decide +kernel
  have e0 : eup ((9007199254740993 : Nat) : Int) = ((9007199254740994 : Nat) : Int) := by decide +kernel
  have m5 := Iz_minus 5 (by decide) (by decide)
  have m1 := Iz_minus 1 (by decide) (by decide)
  have o1 := Iz_pos 1 (by decide)
  have a1 := Iz_pos 9007199254740993 (by decide)
  have b1 := Iz_pos 9007199254740994 (by decide)
  refine told2_core (dstr 9007199254740993) (dstr 9007199254740994) w (fun W hW => ?_) (fun W hW => ?_) (fun W => ?_) (fun W => ?_) (fun W => ?_) (fun W hW => ?_) (fun W hW => ?_) (fun W => ?_) (fun W => ?_) (fun W => ?_) ?_ ?_
  · have := roup_z 0 (by decide) W (tb_on hT.2 hW)
    rw [r0, Znum_of (by decide), a1, Iz_zero] at this
    exact this
  · have := exup_z ((9007199254740993 : Nat) : Int) (by decide) W (tb_on hT.2 hW)
    rw [e0, Znum_of (by decide), a1, b1] at this
    exact this
  · have := of_z (-5) (by decide) (by decide) W
    rw [show (-5 : Int) = -((5 : Nat) : Int) from rfl, m5] at this
    exact this
  · have := toint_z (-((5 : Nat) : Int)) (by decide) W
    rw [m5] at this
    exact this
  · have := wparse_z ⟨#[45, 48]⟩ (by decide) W
    rw [show parseZ ⟨#[45, 48]⟩ = none from by decide +kernel] at this
    exact this
  · have := wprint_z ((9007199254740993 : Nat) : Int) (by decide) W (tab_on hT.1 hW)
    rw [a1] at this
    exact this
  · have := wprint_z ((9007199254740994 : Nat) : Int) (by decide) W (tab_on hT.1 hW)
    rw [b1] at this
    exact this
  · have := of_z (-1) (by decide) (by decide) W
    rw [show (-1 : Int) = -((1 : Nat) : Int) from rfl, m1] at this
    exact this
  · have := cmp_z (-((1 : Nat) : Int)) ((1 : Nat) : Int) (by decide) (by decide) W
    rw [m1, o1] at this
    exact this
  · have := may_no W
    unfold I5 at this
    simp only [lb_zero] at this
    exact this
  · rw [toList_data, dstr_list]; simp [Lib.decDigits]
  · rw [toList_data, dstr_list]; simp [Lib.decDigits]

end Go.Proofs.YtngmdncidieclaaDoor
