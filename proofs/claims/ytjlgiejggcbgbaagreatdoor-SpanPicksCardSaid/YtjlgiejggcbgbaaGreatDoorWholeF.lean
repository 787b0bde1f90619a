/-
  whole.Prev, ToInt, ToUint; downward by each of the three that it is called with: the contracts, said of integers below 2^256 in size.
-/
import Derived.Test.YtjlgiejggcbgbaaGreatDoorWholeE
namespace Go.Proofs.YtjlgiejggcbgbaaGreatDoor
open Go.RowKit Go.Shelf

set_option maxRecDepth 100000 in
theorem prev_core (w : World) (g : Bool) (x0 x1 x2 x3 : Int) (h : Bool) (s0 s1 s2 s3 : Int) (b : Bool)
    (k1 : ∀ W, Below w.heap.size w W → Calls Tryz.prog 71 #[.func (.func 74) #[] #[], .agg #[.bool g, .int .u64 x0, .int .u64 x1, .int .u64 x2, .int .u64 x3]] W fun e w' => e = .returned (.tuple #[.agg #[.bool h, .int .u64 s0, .int .u64 s1, .int .u64 s2, .int .u64 s3], .bool b]) ∧ Below W.heap.size W w') :
    Calls Tryz.prog 81 #[.agg #[.bool g, .int .u64 x0, .int .u64 x1, .int .u64 x2, .int .u64 x3]] w fun e w' => e = .returned (.tuple #[.agg #[.bool h, .int .u64 s0, .int .u64 s1, .int .u64 s2, .int .u64 s3], .bool b]) ∧ Below w.heap.size w w' := by
  have K1 := Lib.hid k1; clear k1
  go_enter Tryz.func81, Tryz.ntmps81
  go_wp2_with fail
  refine (K1.out _ (by repeat (first | (with_reducible exact (bal (bal (Below.refl _ _) _) _)) | (with_reducible refine bal ?_ _) | (with_reducible refine Below.drew ?_) | (with_reducible refine bdn ?_ _)))).mono ?_
  rintro e w1 ⟨rfl, hb⟩
  have BW1 : Below w.heap.size w w1 := btr (by repeat (first | (with_reducible exact Below.refl _ _) | (with_reducible refine bal ?_ _) | (with_reducible refine Below.drew ?_) | (with_reducible refine bdn ?_ _))) hb
  have R1 : Row5 w1 (w.heap.size + 1) (.bool false) (.int .u64 0) (.int .u64 0) (.int .u64 0) (.int .u64 0) := Row5.keep hb (by repeat (first | (with_reducible exact Row5.new _ _ _ _ _ _) | ((with_reducible refine Row5.new' _ ?_ _ _ _ _ _); (simp; done)) | (with_reducible refine Row5.alloc ?_ _) | (with_reducible refine Row5.drew ?_)))
  clear hb
  obtain ⟨Rc0, Rc1, Rc2, Rc3, Rc4⟩ := R1.parts
  obtain ⟨Rf0, Rf1, Rf2, Rf3, Rf4⟩ := R1.free
  go_wp2
  exact bodyPost_ret (v := .tuple #[.agg #[.bool h, .int .u64 s0, .int .u64 s1, .int .u64 s2, .int .u64 s3], .bool b]) (by simp [results, Tryz.results81, go_sem, Rc0, Rc1, Rc2, Rc3, Rc4]) rfl ⟨rfl, bsc5 BW1 (by omega) _ _ _ _ _⟩

set_option maxRecDepth 100000 in
theorem edown_core (w : World) (g : Bool) (x0 x1 x2 x3 : Int) (h : Bool) (s0 s1 s2 s3 : Int) (b : Bool)
    (k1 : ∀ W, Below w.heap.size w W → Calls Tryz.prog 71 #[.func (.func 39) #[] #[], .agg #[.bool g, .int .u64 x0, .int .u64 x1, .int .u64 x2, .int .u64 x3]] W fun e w' => e = .returned (.tuple #[.agg #[.bool h, .int .u64 s0, .int .u64 s1, .int .u64 s2, .int .u64 s3], .bool b]) ∧ Below W.heap.size W w') :
    Calls Tryz.prog 40 #[.agg #[.bool g, .int .u64 x0, .int .u64 x1, .int .u64 x2, .int .u64 x3]] w fun e w' => e = .returned (.tuple #[.agg #[.bool h, .int .u64 s0, .int .u64 s1, .int .u64 s2, .int .u64 s3], .bool b]) ∧ Below w.heap.size w w' := by
  have K1 := Lib.hid k1; clear k1
  go_enter Tryz.func40, Tryz.ntmps40
  go_wp2_with fail
  refine (K1.out _ (by repeat (first | (with_reducible exact (bal (bal (Below.refl _ _) _) _)) | (with_reducible refine bal ?_ _) | (with_reducible refine Below.drew ?_) | (with_reducible refine bdn ?_ _)))).mono ?_
  rintro e w1 ⟨rfl, hb⟩
  have BW1 : Below w.heap.size w w1 := btr (by repeat (first | (with_reducible exact Below.refl _ _) | (with_reducible refine bal ?_ _) | (with_reducible refine Below.drew ?_) | (with_reducible refine bdn ?_ _))) hb
  have R1 : Row5 w1 (w.heap.size + 1) (.bool false) (.int .u64 0) (.int .u64 0) (.int .u64 0) (.int .u64 0) := Row5.keep hb (by repeat (first | (with_reducible exact Row5.new _ _ _ _ _ _) | ((with_reducible refine Row5.new' _ ?_ _ _ _ _ _); (simp; done)) | (with_reducible refine Row5.alloc ?_ _) | (with_reducible refine Row5.drew ?_)))
  clear hb
  obtain ⟨Rc0, Rc1, Rc2, Rc3, Rc4⟩ := R1.parts
  obtain ⟨Rf0, Rf1, Rf2, Rf3, Rf4⟩ := R1.free
  go_wp2
  exact bodyPost_ret (v := .tuple #[.agg #[.bool h, .int .u64 s0, .int .u64 s1, .int .u64 s2, .int .u64 s3], .bool b]) (by simp [results, Tryz.results40, go_sem, Rc0, Rc1, Rc2, Rc3, Rc4]) rfl ⟨rfl, bsc5 BW1 (by omega) _ _ _ _ _⟩

set_option maxRecDepth 100000 in
theorem rdown_core (w : World) (g : Bool) (x0 x1 x2 x3 : Int) (h : Bool) (s0 s1 s2 s3 : Int) (b : Bool)
    (k1 : ∀ W, Below w.heap.size w W → Calls Tryz.prog 71 #[.func (.func 41) #[] #[], .agg #[.bool g, .int .u64 x0, .int .u64 x1, .int .u64 x2, .int .u64 x3]] W fun e w' => e = .returned (.tuple #[.agg #[.bool h, .int .u64 s0, .int .u64 s1, .int .u64 s2, .int .u64 s3], .bool b]) ∧ Below W.heap.size W w') :
    Calls Tryz.prog 42 #[.agg #[.bool g, .int .u64 x0, .int .u64 x1, .int .u64 x2, .int .u64 x3]] w fun e w' => e = .returned (.tuple #[.agg #[.bool h, .int .u64 s0, .int .u64 s1, .int .u64 s2, .int .u64 s3], .bool b]) ∧ Below w.heap.size w w' := by
  have K1 := Lib.hid k1; clear k1
  go_enter Tryz.func42, Tryz.ntmps42
  go_wp2_with fail
  refine (K1.out _ (by repeat (first | (with_reducible exact (bal (bal (Below.refl _ _) _) _)) | (with_reducible refine bal ?_ _) | (with_reducible refine Below.drew ?_) | (with_reducible refine bdn ?_ _)))).mono ?_
  rintro e w1 ⟨rfl, hb⟩
  have BW1 : Below w.heap.size w w1 := btr (by repeat (first | (with_reducible exact Below.refl _ _) | (with_reducible refine bal ?_ _) | (with_reducible refine Below.drew ?_) | (with_reducible refine bdn ?_ _))) hb
  have R1 : Row5 w1 (w.heap.size + 1) (.bool false) (.int .u64 0) (.int .u64 0) (.int .u64 0) (.int .u64 0) := Row5.keep hb (by repeat (first | (with_reducible exact Row5.new _ _ _ _ _ _) | ((with_reducible refine Row5.new' _ ?_ _ _ _ _ _); (simp; done)) | (with_reducible refine Row5.alloc ?_ _) | (with_reducible refine Row5.drew ?_)))
  clear hb
  obtain ⟨Rc0, Rc1, Rc2, Rc3, Rc4⟩ := R1.parts
  obtain ⟨Rf0, Rf1, Rf2, Rf3, Rf4⟩ := R1.free
  go_wp2
  exact bodyPost_ret (v := .tuple #[.agg #[.bool h, .int .u64 s0, .int .u64 s1, .int .u64 s2, .int .u64 s3], .bool b]) (by simp [results, Tryz.results42, go_sem, Rc0, Rc1, Rc2, Rc3, Rc4]) rfl ⟨rfl, bsc5 BW1 (by omega) _ _ _ _ _⟩

theorem Iz_flip (z : Int) (hz : z.natAbs < 2 ^ 256) : (.agg #[.bool (!decide (z < 0) && !eq4 (lb 0 z.natAbs) (lb 1 z.natAbs) (lb 2 z.natAbs) (lb 3 z.natAbs) 0 0 0 0), .int .u64 (lb 0 z.natAbs), .int .u64 (lb 1 z.natAbs), .int .u64 (lb 2 z.natAbs), .int .u64 (lb 3 z.natAbs)] : Value) = Iz (-z) := by
  rw [zq _ hz]
  unfold Iz I5
  rw [Int.natAbs_neg]
  have e : (!decide (z < 0) && !decide (z.natAbs = 0)) = decide (-z < 0) := by
    by_cases h : -z < 0
    · rw [decide_eq_true h]; simp; omega
    · rw [decide_eq_false h]
      by_cases h2 : z < 0
      · simp [h2]
      · have : z = 0 := by omega
        subst this; rfl
  rw [e]
theorem Iz_zero : Iz 0 = Z5 := by
  obtain ⟨l0, l1, l2, l3⟩ := lbz
  show I5 (decide ((0 : Int) < 0)) 0 = Z5
  unfold I5
  rw [l0, l1, l2, l3]; rfl
theorem prev_of (w : World) (z z' : Int) (b : Bool) (hz : z.natAbs < 2 ^ 256) (hz' : z'.natAbs < 2 ^ 256)
    (k : ∀ W, Below w.heap.size w W → Calls Tryz.prog 74 #[Iz (-z)] W fun e w' => e = .returned (.tuple #[Iz z', .bool b]) ∧ Below W.heap.size W w') :
    Calls Tryz.prog 81 #[Iz z] w fun e w' => e = .returned (.tuple #[Iz (-z'), .bool b]) ∧ Below w.heap.size w w' := by
  refine prev_core w _ _ _ _ _ (decide (-z' < 0)) (lb 0 (-z').natAbs) (lb 1 (-z').natAbs) (lb 2 (-z').natAbs) (lb 3 (-z').natAbs) b (fun W hW => ?_)
  have m := fun W => may_yes z hz W
  have k' : ∀ W', Below W.heap.size W W' → Calls Tryz.prog 74 #[.agg #[.bool (!decide (z < 0) && !eq4 (lb 0 z.natAbs) (lb 1 z.natAbs) (lb 2 z.natAbs) (lb 3 z.natAbs) 0 0 0 0), .int .u64 (lb 0 z.natAbs), .int .u64 (lb 1 z.natAbs), .int .u64 (lb 2 z.natAbs), .int .u64 (lb 3 z.natAbs)]] W' fun e w' => e = .returned (.tuple #[Iz z', .bool b]) ∧ Below W'.heap.size W' w' := by
    rw [Iz_flip z hz]; exact fun W' h => k W' (btr hW h)
  have := down_next_yes W _ _ _ _ _ _ _ _ _ _ b m k'
  rw [Iz_flip z' hz'] at this
  exact this
theorem prev_bad (w : World) : Calls Tryz.prog 81 #[I5 true 0] w fun e w' => e = .returned (.tuple #[Z5, .bool false]) ∧ Below w.heap.size w w' :=
  prev_core w _ _ _ _ _ false 0 0 0 0 false (fun W _ => down_next_no W _ _ _ _ _ (fun W => may_no W))
theorem edown_of (w : World) (z z' : Int) (b : Bool) (hz : z.natAbs < 2 ^ 256) (hz' : z'.natAbs < 2 ^ 256)
    (k : ∀ W, Below w.heap.size w W → Calls Tryz.prog 39 #[Iz (-z)] W fun e w' => e = .returned (.tuple #[Iz z', .bool b]) ∧ Below W.heap.size W w') :
    Calls Tryz.prog 40 #[Iz z] w fun e w' => e = .returned (.tuple #[Iz (-z'), .bool b]) ∧ Below w.heap.size w w' := by
  refine edown_core w _ _ _ _ _ (decide (-z' < 0)) (lb 0 (-z').natAbs) (lb 1 (-z').natAbs) (lb 2 (-z').natAbs) (lb 3 (-z').natAbs) b (fun W hW => ?_)
  have m := fun W => may_yes z hz W
  have k' : ∀ W', Below W.heap.size W W' → Calls Tryz.prog 39 #[.agg #[.bool (!decide (z < 0) && !eq4 (lb 0 z.natAbs) (lb 1 z.natAbs) (lb 2 z.natAbs) (lb 3 z.natAbs) 0 0 0 0), .int .u64 (lb 0 z.natAbs), .int .u64 (lb 1 z.natAbs), .int .u64 (lb 2 z.natAbs), .int .u64 (lb 3 z.natAbs)]] W' fun e w' => e = .returned (.tuple #[Iz z', .bool b]) ∧ Below W'.heap.size W' w' := by
    rw [Iz_flip z hz]; exact fun W' h => k W' (btr hW h)
  have := down_exact_yes W _ _ _ _ _ _ _ _ _ _ b m k'
  rw [Iz_flip z' hz'] at this
  exact this
theorem edown_bad (w : World) : Calls Tryz.prog 40 #[I5 true 0] w fun e w' => e = .returned (.tuple #[Z5, .bool false]) ∧ Below w.heap.size w w' :=
  edown_core w _ _ _ _ _ false 0 0 0 0 false (fun W _ => down_exact_no W _ _ _ _ _ (fun W => may_no W))
theorem rdown_of (w : World) (z z' : Int) (b : Bool) (hz : z.natAbs < 2 ^ 256) (hz' : z'.natAbs < 2 ^ 256)
    (k : ∀ W, Below w.heap.size w W → Calls Tryz.prog 41 #[Iz (-z)] W fun e w' => e = .returned (.tuple #[Iz z', .bool b]) ∧ Below W.heap.size W w') :
    Calls Tryz.prog 42 #[Iz z] w fun e w' => e = .returned (.tuple #[Iz (-z'), .bool b]) ∧ Below w.heap.size w w' := by
  refine rdown_core w _ _ _ _ _ (decide (-z' < 0)) (lb 0 (-z').natAbs) (lb 1 (-z').natAbs) (lb 2 (-z').natAbs) (lb 3 (-z').natAbs) b (fun W hW => ?_)
  have m := fun W => may_yes z hz W
  have k' : ∀ W', Below W.heap.size W W' → Calls Tryz.prog 41 #[.agg #[.bool (!decide (z < 0) && !eq4 (lb 0 z.natAbs) (lb 1 z.natAbs) (lb 2 z.natAbs) (lb 3 z.natAbs) 0 0 0 0), .int .u64 (lb 0 z.natAbs), .int .u64 (lb 1 z.natAbs), .int .u64 (lb 2 z.natAbs), .int .u64 (lb 3 z.natAbs)]] W' fun e w' => e = .returned (.tuple #[Iz z', .bool b]) ∧ Below W'.heap.size W' w' := by
    rw [Iz_flip z hz]; exact fun W' h => k W' (btr hW h)
  have := down_rough_yes W _ _ _ _ _ _ _ _ _ _ b m k'
  rw [Iz_flip z' hz'] at this
  exact this
theorem rdown_bad (w : World) : Calls Tryz.prog 42 #[I5 true 0] w fun e w' => e = .returned (.tuple #[Z5, .bool false]) ∧ Below w.heap.size w w' :=
  rdown_core w _ _ _ _ _ false 0 0 0 0 false (fun W _ => down_rough_no W _ _ _ _ _ (fun W => may_no W))
theorem prev_z (z : Int) (hz : z.natAbs < 2 ^ 256) (w : World) :
    Calls Tryz.prog 81 #[Iz z] w fun e w' => e = .returned (Znum (z - 1)) ∧ Below w.heap.size w w' := by
  by_cases h : (z - 1).natAbs < 2 ^ 256
  · refine (prev_of w z (-z + 1) true hz (by omega) (fun W _ => ?_)).mono ?_
    · have := next_z (-z) (by omega) W
      unfold Znum at this
      rw [if_pos (by omega)] at this
      exact this
    rintro e w' ⟨rfl, hb⟩
    refine ⟨?_, hb⟩
    unfold Znum
    rw [if_pos h, show -(-z + 1) = z - 1 from by omega]
  · refine (prev_of w z 0 false hz (by decide) (fun W _ => ?_)).mono ?_
    · have := next_z (-z) (by omega) W
      unfold Znum at this
      rw [if_neg (by omega), ← Iz_zero] at this
      exact this
    rintro e w' ⟨rfl, hb⟩
    refine ⟨?_, hb⟩
    unfold Znum
    rw [if_neg h, ← Iz_zero]
    rfl

/-- What is told of a number of 64 bits. -/
def Znt (k : IntKind) (z : Int) (b : Bool) : Value := if b then .tuple #[.int k z, .bool true] else .tuple #[.int k 0, .bool false]
theorem eq5_Iz (y z : Int) (hy : y.natAbs < 2 ^ 256) (hz : z.natAbs < 2 ^ 256) : eq5 (decide (y < 0)) (lb 0 y.natAbs) (lb 1 y.natAbs) (lb 2 y.natAbs) (lb 3 y.natAbs) (decide (z < 0)) (lb 0 z.natAbs) (lb 1 z.natAbs) (lb 2 z.natAbs) (lb 3 z.natAbs) = decide (y = z) := by
  rw [eq5_int _ _ _ _ hy hz]
  by_cases h : y = z
  · subst h; simp
  · rw [decide_eq_false h]
    apply decide_eq_false
    rintro ⟨h1, h2⟩
    have : (y < 0) ↔ (z < 0) := by simpa using h1
    omega
theorem eq5_bad (y : Int) (hy : y.natAbs < 2 ^ 256) : eq5 (decide (y < 0)) (lb 0 y.natAbs) (lb 1 y.natAbs) (lb 2 y.natAbs) (lb 3 y.natAbs) true (lb 0 0) (lb 1 0) (lb 2 0) (lb 3 0) = false := by
  rw [eq5_int _ _ _ _ hy (by decide)]
  apply decide_eq_false
  rintro ⟨h1, h2⟩
  have : y < 0 := by simpa using h1
  omega
theorem wrap64_bd (x : Int) : -9223372036854775808 ≤ wrap64 x ∧ wrap64 x < 9223372036854775808 := by unfold wrap64; omega
end Go.Proofs.YtjlgiejggcbgbaaGreatDoor
