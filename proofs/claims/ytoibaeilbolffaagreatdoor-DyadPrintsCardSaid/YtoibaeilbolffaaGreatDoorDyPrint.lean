/-
  dyad.withPoint, dyad.Print: for every word.
-/
import Derived.Test.YtoibaeilbolffaaGreatDoorDyAny
import Derived.Test.YtoibaeilbolffaaGreatDoorNatStr
namespace Go.Proofs.YtoibaeilbolffaaGreatDoor
open Go.RowKit Go.Shelf

/-- Digits with noughts ahead, one more than stand behind the point at least. -/
def padl (l : List UInt8) (k : Nat) : List UInt8 := List.replicate (k + 1 - l.length) 48 ++ l
def wpt (l : List UInt8) (k : Nat) : List UInt8 := (padl l k).take ((padl l k).length - k) ++ [46] ++ (padl l k).drop ((padl l k).length - k)
theorem padl_len (l : List UInt8) (k : Nat) : (padl l k).length = max (k + 1) l.length := by
  unfold padl
  rw [List.length_append, List.length_replicate]
  omega
theorem rep_list (n : Nat) : Lib.repeatL [48] n = List.replicate n 48 := by
  induction n with
  | zero => rfl
  | succ n ih => rw [List.replicate_succ, ← ih]; rfl
set_option maxHeartbeats 1000000 in
theorem point_core (S Z T : ByteArray) (k c A : Nat) (hk : k ≤ 64) (hS : S.size ≤ 200) (hZ : Z.size ≤ 200) (hT : Z ++ S = T) (hc : (c : Int) = max ((k : Int) + 1 - (S.size : Int)) 0) (hA : (T.size : Int) - (k : Int) = (A : Int)) (hTs : T.size ≤ 400) (hA2 : A ≤ T.size) (w : World)
    (k1 : ∀ W, Calls Tryz.prog 63 #[.string ⟨#[48]⟩, .int .i64 (c : Int)] W fun e w' => e = .returned (.string Z) ∧ Below W.heap.size W w') :
    Calls Tryz.prog 30 #[.string S, .int .i64 (k : Int)] w fun e w' => e = .returned (.string (T.extract 0 A ++ ⟨#[46]⟩ ++ T.extract A T.size)) ∧ Below w.heap.size w w' := by
  rw [hc] at k1
  have K1 := Lib.hid k1
  have q2 : Z.size + S.size ≤ 400 := by omega
  have q5 : (A : Int) ≤ (T.size : Int) := by omega
  have q6 : (0 : Int) ≤ (A : Int) := by omega
  clear k1 hc
  go_enter Tryz.func30, Tryz.ntmps30
  go_wp2_with fail
  (with_reducible refine (K1.out _).mono ?_)
  rintro e w1 ⟨rfl, hb⟩
  go_upto_region 3 with (fail)
  go_quiet (fail)
  go_wp2
  go_ret
  exact ⟨rfl, bdn hb _⟩
theorem point_any (l : List UInt8) (k : Nat) (hk : k ≤ 64) (hl : l.length ≤ 130) (w : World) :
    Calls Tryz.prog 30 #[.string (str l), .int .i64 (k : Int)] w fun e w' => e = .returned (.string (str (wpt l k))) ∧ Below w.heap.size w w' := by
  have hs := str_size l
  have k1 := fun W => Tryz.strings_Repeat ⟨#[48]⟩ (k + 1 - l.length) W (by omega) (by show 1 * _ ≤ _; omega)
  have e1 : (⟨(Lib.repeatL (ByteArray.mk #[48]).data.toList (k + 1 - l.length)).toArray⟩ : ByteArray) = str (List.replicate (k + 1 - l.length) 48) := by
    show (⟨(Lib.repeatL [48] (k + 1 - l.length)).toArray⟩ : ByteArray) = _
    rw [rep_list]; rfl
  rw [e1] at k1
  have hz := str_size (List.replicate (k + 1 - l.length) (48 : UInt8))
  rw [List.length_replicate] at hz
  have e2 : str (List.replicate (k + 1 - l.length) 48) ++ str l = str (padl l k) := by rw [str_app]; rfl
  have hp := padl_len l k
  have hps := str_size (padl l k)
  have h := point_core (str l) (str (List.replicate (k + 1 - l.length) 48)) (str (padl l k)) k (k + 1 - l.length) ((padl l k).length - k) hk (by omega) (by omega) e2 (by omega) (by omega) (by omega) (by omega) w k1
  rw [str_take, str_drop] at h
  have e3 : str ((padl l k).take ((padl l k).length - k)) ++ ⟨#[46]⟩ ++ str ((padl l k).drop ((padl l k).length - k)) = str (wpt l k) := by
    rw [show (⟨#[46]⟩ : ByteArray) = str [46] from rfl, str_app, str_app]
    rfl
  rw [e3] at h
  exact h
theorem dprint_no (b c : Int) (hc : (c != 1) = true) (w : World)
    (k1 : ∀ W, Below w.heap.size w W → Calls Tryz.prog 25 #[.int .u64 b] W fun e w' => e = .returned (.int .i64 c) ∧ Below W.heap.size W w') :
    Calls Tryz.prog 11 #[.int .u64 b] w fun e w' => e = .returned (.tuple #[.string ⟨#[]⟩, .bool false]) ∧ Below w.heap.size w w' := by
  have K1 := Lib.hid k1; clear k1
  go_enter Tryz.func11, Tryz.ntmps11
  go_wp2_with fail
  (with_reducible refine (K1.out _ (Below.refl _ _)).mono ?_)
  rintro e w1 ⟨rfl, hb⟩
  go_wp2
  go_ret2
  exact ⟨rfl, hb⟩
set_option maxHeartbeats 1000000 in
theorem dprint_yes (b y : Int) (K q x : Nat) (g o1 o2 : Bool) (P X : ByteArray) (hX : X.size ≤ 400) (w : World)
    (k1 : ∀ W, Below w.heap.size w W → Calls Tryz.prog 25 #[.int .u64 b] W fun e w' => e = .returned (.int .i64 1) ∧ Below W.heap.size W w')
    (k2 : ∀ W, Below w.heap.size w W → Calls Tryz.prog 26 #[.int .u64 b] W fun e w' => e = .returned (.int .i64 (K : Int)) ∧ Below W.heap.size W w')
    (k3 : ∀ W, Calls Tryz.prog 28 #[.int .u64 b, .int .i64 (K : Int)] W fun e w' => e = .returned (.int .u64 y) ∧ Below W.heap.size W w')
    (k4 : ∀ W, Below w.heap.size w W → Calls Tryz.prog 27 #[.int .u64 y] W fun e w' => e = .returned (.tuple #[I5 g q, .bool o1]) ∧ Below W.heap.size W w')
    (k5 : ∀ W, Calls Tryz.prog 29 #[N4 q, .int .u64 5, .int .i64 (K : Int)] W fun e w' => e = .returned (.tuple #[N4 x, .bool o2]) ∧ Below W.heap.size W w')
    (k6 : ∀ W, Below w.heap.size w W → Calls Tryz.prog 31 #[N4 x] W fun e w' => e = .returned (.string P) ∧ Below W.heap.size W w')
    (k7 : ∀ W, Calls Tryz.prog 30 #[.string P, .int .i64 (K : Int)] W fun e w' => e = .returned (.string X) ∧ Below W.heap.size W w') :
    Calls Tryz.prog 11 #[.int .u64 b] w fun e w' => e = .returned (.tuple #[.string (if g then ⟨#[45]⟩ ++ X else X), .bool true]) ∧ Below w.heap.size w w' := by
  have K1 := Lib.hid k1; have K2 := Lib.hid k2; have K3 := Lib.hid k3; have K4 := Lib.hid k4; have K5 := Lib.hid k5; have K6 := Lib.hid k6; have K7 := Lib.hid k7; clear k1 k2 k3 k4 k5 k6 k7
  cases g
  all_goals
    go_enter Tryz.func11, Tryz.ntmps11
    go_wp2_with fail
    (with_reducible refine (K1.out _ (Below.refl _ _)).mono ?_)
    rintro e w1 ⟨rfl, hw1⟩
    go_wp2_with fail
    (with_reducible refine (K2.out _ hw1).mono ?_)
    rintro e w2 ⟨rfl, hb⟩
    have hw2 := btr hw1 hb
    clear hb hw1
    go_wp2_with fail
    (with_reducible refine (K3.out _).mono ?_)
    rintro e w3 ⟨rfl, hb⟩
    have hw3 := btr hw2 hb
    clear hb hw2
    go_wp2_with fail
    (with_reducible refine (K4.out _ hw3).mono ?_)
    rintro e w4 ⟨rfl, hb⟩
    have hw4 := btr hw3 hb
    clear hb hw3
    go_wp2_with fail
    (with_reducible refine (K5.out _).mono ?_)
    rintro e w5 ⟨rfl, hb⟩
    have R5 := Row5.keep hb (Row5.new _ _ _ _ _ _)
    have hw5 := btr (bal hw4 _) hb
    clear hb hw4
    have hl5 := R5.lt
    go_wp2_with fail
    (with_reducible refine (K6.out _ (bal hw5 _)).mono ?_)
    rintro e w6 ⟨rfl, hb⟩
    have R6 := Row5.keep hb (Row5.alloc R5 _)
    have hw6 := btr (bal hw5 _) hb
    clear hb hw5 R5
    go_wp2_with fail
    (with_reducible refine (K7.out _).mono ?_)
    rintro e w7 ⟨rfl, hb⟩
    have R7 := Row5.keep hb R6
    have hw7 := btr hw6 hb
    clear hb hw6 R6
    obtain ⟨c0, c1, c2, c3, c4⟩ := R7.parts
    go_wp2
    go_ret2
    exact ⟨rfl, hw7⟩
end Go.Proofs.YtoibaeilbolffaaGreatDoor
