/-
  whole.Prev, ToInt, ToUint; downward by each of the three that it is called with: the contracts, said of integers below 2^256 in size.
-/
import Derived.Test.YtfbkifcgdkgllaaDoorWholeE
namespace Go.Proofs.YtfbkifcgdkgllaaDoor
open Go.RowKit Go.Shelf

set_option maxRecDepth 100000 in
theorem prev_core (w : World) (g : Bool) (x0 x1 x2 x3 : Int) (h : Bool) (s0 s1 s2 s3 : Int) (b : Bool)
    (k1 : ∀ W, Below w.heap.size w W → Calls Tryd.prog 88 #[.func (.func 38) #[] #[], .agg #[.bool g, .int .u64 x0, .int .u64 x1, .int .u64 x2, .int .u64 x3]] W fun e w' => e = .returned (.tuple #[.agg #[.bool h, .int .u64 s0, .int .u64 s1, .int .u64 s2, .int .u64 s3], .bool b]) ∧ Below W.heap.size W w') :
    Calls Tryd.prog 40 #[.agg #[.bool g, .int .u64 x0, .int .u64 x1, .int .u64 x2, .int .u64 x3]] w fun e w' => e = .returned (.tuple #[.agg #[.bool h, .int .u64 s0, .int .u64 s1, .int .u64 s2, .int .u64 s3], .bool b]) ∧ Below w.heap.size w w' := by
  have K1 := Lib.hid k1; clear k1
  go_enter Tryd.func40, Tryd.ntmps40
  go_wp2_with fail
  refine (K1.out _ (by repeat (first | (with_reducible exact (bal (bal (Below.refl _ _) _) _)) | (with_reducible refine bal ?_ _) | (with_reducible refine Below.drew ?_) | (with_reducible refine bdn ?_ _)))).mono ?_
  rintro e w1 ⟨rfl, hb⟩
  have BW1 : Below w.heap.size w w1 := btr (by repeat (first | (with_reducible exact Below.refl _ _) | (with_reducible refine bal ?_ _) | (with_reducible refine Below.drew ?_) | (with_reducible refine bdn ?_ _))) hb
  have R1 : Row5 w1 (w.heap.size + 1) (.bool false) (.int .u64 0) (.int .u64 0) (.int .u64 0) (.int .u64 0) := Row5.keep hb (by repeat (first | (with_reducible exact Row5.new _ _ _ _ _ _) | ((with_reducible refine Row5.new' _ ?_ _ _ _ _ _); (simp; done)) | (with_reducible refine Row5.alloc ?_ _) | (with_reducible refine Row5.drew ?_)))
  clear hb
  obtain ⟨Rc0, Rc1, Rc2, Rc3, Rc4⟩ := R1.parts
  obtain ⟨Rf0, Rf1, Rf2, Rf3, Rf4⟩ := R1.free
  go_wp2
  exact bodyPost_ret (v := .tuple #[.agg #[.bool h, .int .u64 s0, .int .u64 s1, .int .u64 s2, .int .u64 s3], .bool b]) (by simp [results, Tryd.results40, go_sem, Rc0, Rc1, Rc2, Rc3, Rc4]) rfl ⟨rfl, bsc5 BW1 (by omega) _ _ _ _ _⟩

set_option maxRecDepth 100000 in
theorem edown_core (w : World) (g : Bool) (x0 x1 x2 x3 : Int) (h : Bool) (s0 s1 s2 s3 : Int) (b : Bool)
    (k1 : ∀ W, Below w.heap.size w W → Calls Tryd.prog 88 #[.func (.func 48) #[] #[], .agg #[.bool g, .int .u64 x0, .int .u64 x1, .int .u64 x2, .int .u64 x3]] W fun e w' => e = .returned (.tuple #[.agg #[.bool h, .int .u64 s0, .int .u64 s1, .int .u64 s2, .int .u64 s3], .bool b]) ∧ Below W.heap.size W w') :
    Calls Tryd.prog 50 #[.agg #[.bool g, .int .u64 x0, .int .u64 x1, .int .u64 x2, .int .u64 x3]] w fun e w' => e = .returned (.tuple #[.agg #[.bool h, .int .u64 s0, .int .u64 s1, .int .u64 s2, .int .u64 s3], .bool b]) ∧ Below w.heap.size w w' := by
  have K1 := Lib.hid k1; clear k1
  go_enter Tryd.func50, Tryd.ntmps50
  go_wp2_with fail
  refine (K1.out _ (by repeat (first | (with_reducible exact (bal (bal (Below.refl _ _) _) _)) | (with_reducible refine bal ?_ _) | (with_reducible refine Below.drew ?_) | (with_reducible refine bdn ?_ _)))).mono ?_
  rintro e w1 ⟨rfl, hb⟩
  have BW1 : Below w.heap.size w w1 := btr (by repeat (first | (with_reducible exact Below.refl _ _) | (with_reducible refine bal ?_ _) | (with_reducible refine Below.drew ?_) | (with_reducible refine bdn ?_ _))) hb
  have R1 : Row5 w1 (w.heap.size + 1) (.bool false) (.int .u64 0) (.int .u64 0) (.int .u64 0) (.int .u64 0) := Row5.keep hb (by repeat (first | (with_reducible exact Row5.new _ _ _ _ _ _) | ((with_reducible refine Row5.new' _ ?_ _ _ _ _ _); (simp; done)) | (with_reducible refine Row5.alloc ?_ _) | (with_reducible refine Row5.drew ?_)))
  clear hb
  obtain ⟨Rc0, Rc1, Rc2, Rc3, Rc4⟩ := R1.parts
  obtain ⟨Rf0, Rf1, Rf2, Rf3, Rf4⟩ := R1.free
  go_wp2
  exact bodyPost_ret (v := .tuple #[.agg #[.bool h, .int .u64 s0, .int .u64 s1, .int .u64 s2, .int .u64 s3], .bool b]) (by simp [results, Tryd.results50, go_sem, Rc0, Rc1, Rc2, Rc3, Rc4]) rfl ⟨rfl, bsc5 BW1 (by omega) _ _ _ _ _⟩

set_option maxRecDepth 100000 in
theorem rdown_core (w : World) (g : Bool) (x0 x1 x2 x3 : Int) (h : Bool) (s0 s1 s2 s3 : Int) (b : Bool)
    (k1 : ∀ W, Below w.heap.size w W → Calls Tryd.prog 88 #[.func (.func 51) #[] #[], .agg #[.bool g, .int .u64 x0, .int .u64 x1, .int .u64 x2, .int .u64 x3]] W fun e w' => e = .returned (.tuple #[.agg #[.bool h, .int .u64 s0, .int .u64 s1, .int .u64 s2, .int .u64 s3], .bool b]) ∧ Below W.heap.size W w') :
    Calls Tryd.prog 52 #[.agg #[.bool g, .int .u64 x0, .int .u64 x1, .int .u64 x2, .int .u64 x3]] w fun e w' => e = .returned (.tuple #[.agg #[.bool h, .int .u64 s0, .int .u64 s1, .int .u64 s2, .int .u64 s3], .bool b]) ∧ Below w.heap.size w w' := by
  have K1 := Lib.hid k1; clear k1
  go_enter Tryd.func52, Tryd.ntmps52
  go_wp2_with fail
  refine (K1.out _ (by repeat (first | (with_reducible exact (bal (bal (Below.refl _ _) _) _)) | (with_reducible refine bal ?_ _) | (with_reducible refine Below.drew ?_) | (with_reducible refine bdn ?_ _)))).mono ?_
  rintro e w1 ⟨rfl, hb⟩
  have BW1 : Below w.heap.size w w1 := btr (by repeat (first | (with_reducible exact Below.refl _ _) | (with_reducible refine bal ?_ _) | (with_reducible refine Below.drew ?_) | (with_reducible refine bdn ?_ _))) hb
  have R1 : Row5 w1 (w.heap.size + 1) (.bool false) (.int .u64 0) (.int .u64 0) (.int .u64 0) (.int .u64 0) := Row5.keep hb (by repeat (first | (with_reducible exact Row5.new _ _ _ _ _ _) | ((with_reducible refine Row5.new' _ ?_ _ _ _ _ _); (simp; done)) | (with_reducible refine Row5.alloc ?_ _) | (with_reducible refine Row5.drew ?_)))
  clear hb
  obtain ⟨Rc0, Rc1, Rc2, Rc3, Rc4⟩ := R1.parts
  obtain ⟨Rf0, Rf1, Rf2, Rf3, Rf4⟩ := R1.free
  go_wp2
  exact bodyPost_ret (v := .tuple #[.agg #[.bool h, .int .u64 s0, .int .u64 s1, .int .u64 s2, .int .u64 s3], .bool b]) (by simp [results, Tryd.results52, go_sem, Rc0, Rc1, Rc2, Rc3, Rc4]) rfl ⟨rfl, bsc5 BW1 (by omega) _ _ _ _ _⟩

theorem Iz_flip (z : Int) (hz : z.natAbs < 2 ^ 256) : (.agg #[.bool (!decide (z < 0) && !eq4 (lb 0 z.natAbs) (lb 1 z.natAbs) (lb 2 z.natAbs) (lb 3 z.natAbs) 0 0 0 0), .int .u64 (lb 0 z.natAbs), .int .u64 (lb 1 z.natAbs), .int .u64 (lb 2 z.natAbs), .int .u64 (lb 3 z.natAbs)] : Value) = Iz (-z) := by
  rw [zq _ hz]
  unfold Iz I5
  rw [Int.natAbs_neg]
  have e : (!decide (z < 0) && !decide (z.natAbs = 0)) = decide (-z < 0) := by
    by_cases h : -z < 0
    · rw [decide_eq_true h]; simp; omega
    · rw [decide_eq_false h]
      by_cases h2 : z < 0
      · simp [h2]
      · have : z = 0 := by omega
        subst this; rfl
  rw [e]
theorem Iz_zero : Iz 0 = Z5 := by
  obtain ⟨l0, l1, l2, l3⟩ := lbz
  show I5 (decide ((0 : Int) < 0)) 0 = Z5
  unfold I5
  rw [l0, l1, l2, l3]; rfl
theorem prev_of (w : World) (z z' : Int) (b : Bool) (hz : z.natAbs < 2 ^ 256) (hz' : z'.natAbs < 2 ^ 256)
    (k : ∀ W, Below w.heap.size w W → Calls Tryd.prog 38 #[Iz (-z)] W fun e w' => e = .returned (.tuple #[Iz z', .bool b]) ∧ Below W.heap.size W w') :
    Calls Tryd.prog 40 #[Iz z] w fun e w' => e = .returned (.tuple #[Iz (-z'), .bool b]) ∧ Below w.heap.size w w' := by
  refine prev_core w _ _ _ _ _ (decide (-z' < 0)) (lb 0 (-z').natAbs) (lb 1 (-z').natAbs) (lb 2 (-z').natAbs) (lb 3 (-z').natAbs) b (fun W hW => ?_)
  have m := fun W => may_yes z hz W
  have k' : ∀ W', Below W.heap.size W W' → Calls Tryd.prog 38 #[.agg #[.bool (!decide (z < 0) && !eq4 (lb 0 z.natAbs) (lb 1 z.natAbs) (lb 2 z.natAbs) (lb 3 z.natAbs) 0 0 0 0), .int .u64 (lb 0 z.natAbs), .int .u64 (lb 1 z.natAbs), .int .u64 (lb 2 z.natAbs), .int .u64 (lb 3 z.natAbs)]] W' fun e w' => e = .returned (.tuple #[Iz z', .bool b]) ∧ Below W'.heap.size W' w' := by
    rw [Iz_flip z hz]; exact fun W' h => k W' (btr hW h)
  have := down_next_yes W _ _ _ _ _ _ _ _ _ _ b m k'
  rw [Iz_flip z' hz'] at this
  exact this
theorem prev_bad (w : World) : Calls Tryd.prog 40 #[I5 true 0] w fun e w' => e = .returned (.tuple #[Z5, .bool false]) ∧ Below w.heap.size w w' :=
  prev_core w _ _ _ _ _ false 0 0 0 0 false (fun W _ => down_next_no W _ _ _ _ _ (fun W => may_no W))
theorem edown_of (w : World) (z z' : Int) (b : Bool) (hz : z.natAbs < 2 ^ 256) (hz' : z'.natAbs < 2 ^ 256)
    (k : ∀ W, Below w.heap.size w W → Calls Tryd.prog 48 #[Iz (-z)] W fun e w' => e = .returned (.tuple #[Iz z', .bool b]) ∧ Below W.heap.size W w') :
    Calls Tryd.prog 50 #[Iz z] w fun e w' => e = .returned (.tuple #[Iz (-z'), .bool b]) ∧ Below w.heap.size w w' := by
  refine edown_core w _ _ _ _ _ (decide (-z' < 0)) (lb 0 (-z').natAbs) (lb 1 (-z').natAbs) (lb 2 (-z').natAbs) (lb 3 (-z').natAbs) b (fun W hW => ?_)
  have m := fun W => may_yes z hz W
  have k' : ∀ W', Below W.heap.size W W' → Calls Tryd.prog 48 #[.agg #[.bool (!decide (z < 0) && !eq4 (lb 0 z.natAbs) (lb 1 z.natAbs) (lb 2 z.natAbs) (lb 3 z.natAbs) 0 0 0 0), .int .u64 (lb 0 z.natAbs), .int .u64 (lb 1 z.natAbs), .int .u64 (lb 2 z.natAbs), .int .u64 (lb 3 z.natAbs)]] W' fun e w' => e = .returned (.tuple #[Iz z', .bool b]) ∧ Below W'.heap.size W' w' := by
    rw [Iz_flip z hz]; exact fun W' h => k W' (btr hW h)
  have := down_exact_yes W _ _ _ _ _ _ _ _ _ _ b m k'
  rw [Iz_flip z' hz'] at this
  exact this
theorem edown_bad (w : World) : Calls Tryd.prog 50 #[I5 true 0] w fun e w' => e = .returned (.tuple #[Z5, .bool false]) ∧ Below w.heap.size w w' :=
  edown_core w _ _ _ _ _ false 0 0 0 0 false (fun W _ => down_exact_no W _ _ _ _ _ (fun W => may_no W))
theorem rdown_of (w : World) (z z' : Int) (b : Bool) (hz : z.natAbs < 2 ^ 256) (hz' : z'.natAbs < 2 ^ 256)
    (k : ∀ W, Below w.heap.size w W → Calls Tryd.prog 51 #[Iz (-z)] W fun e w' => e = .returned (.tuple #[Iz z', .bool b]) ∧ Below W.heap.size W w') :
    Calls Tryd.prog 52 #[Iz z] w fun e w' => e = .returned (.tuple #[Iz (-z'), .bool b]) ∧ Below w.heap.size w w' := by
  refine rdown_core w _ _ _ _ _ (decide (-z' < 0)) (lb 0 (-z').natAbs) (lb 1 (-z').natAbs) (lb 2 (-z').natAbs) (lb 3 (-z').natAbs) b (fun W hW => ?_)
  have m := fun W => may_yes z hz W
  have k' : ∀ W', Below W.heap.size W W' → Calls Tryd.prog 51 #[.agg #[.bool (!decide (z < 0) && !eq4 (lb 0 z.natAbs) (lb 1 z.natAbs) (lb 2 z.natAbs) (lb 3 z.natAbs) 0 0 0 0), .int .u64 (lb 0 z.natAbs), .int .u64 (lb 1 z.natAbs), .int .u64 (lb 2 z.natAbs), .int .u64 (lb 3 z.natAbs)]] W' fun e w' => e = .returned (.tuple #[Iz z', .bool b]) ∧ Below W'.heap.size W' w' := by
    rw [Iz_flip z hz]; exact fun W' h => k W' (btr hW h)
  have := down_rough_yes W _ _ _ _ _ _ _ _ _ _ b m k'
  rw [Iz_flip z' hz'] at this
  exact this
theorem rdown_bad (w : World) : Calls Tryd.prog 52 #[I5 true 0] w fun e w' => e = .returned (.tuple #[Z5, .bool false]) ∧ Below w.heap.size w w' :=
  rdown_core w _ _ _ _ _ false 0 0 0 0 false (fun W _ => down_rough_no W _ _ _ _ _ (fun W => may_no W))
theorem prev_z (z : Int) (hz : z.natAbs < 2 ^ 256) (w : World) :
    Calls Tryd.prog 40 #[Iz z] w fun e w' => e = .returned (Znum (z - 1)) ∧ Below w.heap.size w w' := by
  by_cases h : (z - 1).natAbs < 2 ^ 256
  · refine (prev_of w z (-z + 1) true hz (by omega) (fun W _ => ?_)).mono ?_
    · have := next_z (-z) (by omega) W
      unfold Znum at this
      rw [if_pos (by omega)] at this
      exact this
    rintro e w' ⟨rfl, hb⟩
    refine ⟨?_, hb⟩
    unfold Znum
    rw [if_pos h, show -(-z + 1) = z - 1 from by omega]
  · refine (prev_of w z 0 false hz (by decide) (fun W _ => ?_)).mono ?_
    · have := next_z (-z) (by omega) W
      unfold Znum at this
      rw [if_neg (by omega), ← Iz_zero] at this
      exact this
    rintro e w' ⟨rfl, hb⟩
    refine ⟨?_, hb⟩
    unfold Znum
    rw [if_neg h, ← Iz_zero]
    rfl

/-- What is told of a number of 64 bits. -/
def Znt (k : IntKind) (z : Int) (b : Bool) : Value := if b then .tuple #[.int k z, .bool true] else .tuple #[.int k 0, .bool false]
theorem low_tuple (x : Nat) (hx : x < 2 ^ 256) (W : World) : Calls Tryd.prog 15 #[N4 x] W fun e w' => e = .returned (.tuple #[.int .u64 (if x < 18446744073709551616 then (x : Int) else 0), .bool (decide (x < 18446744073709551616))]) ∧ Below W.heap.size W w' := by
  refine (low_any x hx W).mono ?_
  rintro e w' ⟨rfl, hb⟩
  refine ⟨?_, hb⟩
  split <;> simp [*]
theorem eq5_Iz (y z : Int) (hy : y.natAbs < 2 ^ 256) (hz : z.natAbs < 2 ^ 256) : eq5 (decide (y < 0)) (lb 0 y.natAbs) (lb 1 y.natAbs) (lb 2 y.natAbs) (lb 3 y.natAbs) (decide (z < 0)) (lb 0 z.natAbs) (lb 1 z.natAbs) (lb 2 z.natAbs) (lb 3 z.natAbs) = decide (y = z) := by
  rw [eq5_int _ _ _ _ hy hz]
  by_cases h : y = z
  · subst h; simp
  · rw [decide_eq_false h]
    apply decide_eq_false
    rintro ⟨h1, h2⟩
    have : (y < 0) ↔ (z < 0) := by simpa using h1
    omega
theorem eq5_bad (y : Int) (hy : y.natAbs < 2 ^ 256) : eq5 (decide (y < 0)) (lb 0 y.natAbs) (lb 1 y.natAbs) (lb 2 y.natAbs) (lb 3 y.natAbs) true (lb 0 0) (lb 1 0) (lb 2 0) (lb 3 0) = false := by
  rw [eq5_int _ _ _ _ hy (by decide)]
  apply decide_eq_false
  rintro ⟨h1, h2⟩
  have : y < 0 := by simpa using h1
  omega
theorem toint_any (g : Bool) (x0 x1 x2 x3 l : Int) (v : Int) (lb : Bool) (h : Bool) (y0 y1 y2 y3 : Int) (hv : (if g then wrap64 (-wrap64 l) else wrap64 l) = v)
    (k1 : ∀ W, Calls Tryd.prog 15 #[.agg #[.int .u64 x0, .int .u64 x1, .int .u64 x2, .int .u64 x3]] W fun e w' => e = .returned (.tuple #[.int .u64 l, .bool lb]) ∧ Below W.heap.size W w')
    (k2 : ∀ W, Calls Tryd.prog 30 #[.int .i64 v] W fun e w' => e = .returned (.agg #[.bool h, .int .u64 y0, .int .u64 y1, .int .u64 y2, .int .u64 y3]) ∧ Below W.heap.size W w')
    (q : Bool) (hq : eq5 h y0 y1 y2 y3 g x0 x1 x2 x3 = q) (w : World) :
    Calls Tryd.prog 34 #[.agg #[.bool g, .int .u64 x0, .int .u64 x1, .int .u64 x2, .int .u64 x3]] w fun e w' => e = .returned (Znt .i64 v q) ∧ Below w.heap.size w w' := by
  cases g <;> cases q
  · exact toint_pf _ _ _ _ _ _ _ _ _ _ _ _ hv k1 k2 hq w
  · exact toint_pt _ _ _ _ _ _ _ _ _ _ _ _ hv k1 k2 hq w
  · exact toint_nf _ _ _ _ _ _ _ _ _ _ _ _ hv k1 k2 hq w
  · exact toint_nt _ _ _ _ _ _ _ _ _ _ _ _ hv k1 k2 hq w
theorem wrap64_bd (x : Int) : -9223372036854775808 ≤ wrap64 x ∧ wrap64 x < 9223372036854775808 := by unfold wrap64; omega
theorem toint_z (z : Int) (hz : z.natAbs < 2 ^ 256) (w : World) :
    Calls Tryd.prog 34 #[Iz z] w fun e w' => e = .returned (Znt .i64 z (decide (-9223372036854775808 ≤ z ∧ z < 9223372036854775808))) ∧ Below w.heap.size w w' := by
  have low := low_tuple z.natAbs hz
  generalize hl : (if z.natAbs < 18446744073709551616 then (z.natAbs : Int) else 0) = l at low
  have key := toint_any (decide (z < 0)) _ _ _ _ l _ _ _ _ _ _ _ rfl low (fun W => of_z _ (by split; exact (wrap64_bd _).1; exact (wrap64_bd _).1) (by split; exact (wrap64_bd _).2; exact (wrap64_bd _).2) W) _ (eq5_Iz _ z (by have := wrap64_bd (-wrap64 l); have := wrap64_bd l; split <;> omega) hz) w
  refine key.mono ?_
  rintro e w' ⟨rfl, hb⟩
  refine ⟨?_, hb⟩
  have hv : ∀ v, v = (if decide (z < 0) = true then wrap64 (-wrap64 l) else wrap64 l) → (v = z ↔ (-9223372036854775808 ≤ z ∧ z < 9223372036854775808)) := by
    intro v hv
    unfold wrap64 at hv
    by_cases hs : z.natAbs < 18446744073709551616
    · rw [if_pos hs] at hl
      by_cases h0 : z < 0
      · rw [if_pos (by simpa using h0)] at hv
        omega
      · rw [if_neg (by simpa using h0)] at hv
        omega
    · rw [if_neg hs] at hl
      subst hl
      have : v = 0 := by rw [hv]; split <;> rfl
      omega
  generalize (if decide (z < 0) = true then wrap64 (-wrap64 l) else wrap64 l) = v at hv ⊢
  have := hv v rfl
  by_cases h : -9223372036854775808 ≤ z ∧ z < 9223372036854775808
  · rw [decide_eq_true h, decide_eq_true (this.2 h), this.2 h]
  · rw [decide_eq_false h, decide_eq_false (fun e => h (this.1 e))]; rfl
theorem toint_bad (w : World) : Calls Tryd.prog 34 #[I5 true 0] w fun e w' => e = .returned (.tuple #[.int .i64 0, .bool false]) ∧ Below w.heap.size w w' := by
  have low := low_tuple 0 (by decide)
  exact toint_any true _ _ _ _ _ 0 _ _ _ _ _ _ (by unfold wrap64; simp) low (fun W => of_z 0 (by decide) (by decide) W) false (eq5_bad 0 (by decide)) w
theorem touint_any (g : Bool) (x0 x1 x2 x3 l : Int) (lb : Bool) (h : Bool) (y0 y1 y2 y3 : Int)
    (k1 : ∀ W, Calls Tryd.prog 15 #[.agg #[.int .u64 x0, .int .u64 x1, .int .u64 x2, .int .u64 x3]] W fun e w' => e = .returned (.tuple #[.int .u64 l, .bool lb]) ∧ Below W.heap.size W w')
    (k2 : ∀ W, Calls Tryd.prog 32 #[.int .u64 l] W fun e w' => e = .returned (.agg #[.bool h, .int .u64 y0, .int .u64 y1, .int .u64 y2, .int .u64 y3]) ∧ Below W.heap.size W w')
    (q : Bool) (hq : eq5 h y0 y1 y2 y3 g x0 x1 x2 x3 = q) (w : World) :
    Calls Tryd.prog 36 #[.agg #[.bool g, .int .u64 x0, .int .u64 x1, .int .u64 x2, .int .u64 x3]] w fun e w' => e = .returned (Znt .u64 l q) ∧ Below w.heap.size w w' := by
  cases q
  · exact touint_f _ _ _ _ _ _ _ _ _ _ _ _ k1 k2 hq w
  · exact touint_t _ _ _ _ _ _ _ _ _ _ _ _ k1 k2 hq w
theorem touint_z (z : Int) (hz : z.natAbs < 2 ^ 256) (w : World) :
    Calls Tryd.prog 36 #[Iz z] w fun e w' => e = .returned (Znt .u64 z (decide (0 ≤ z ∧ z < 18446744073709551616))) ∧ Below w.heap.size w w' := by
  have low := low_tuple z.natAbs hz
  generalize hl : (if z.natAbs < 18446744073709551616 then (z.natAbs : Int) else 0) = l at low
  have l0 : 0 ≤ l ∧ l < 18446744073709551616 := by split at hl <;> omega
  have key := touint_any (decide (z < 0)) _ _ _ _ l _ _ _ _ _ _ low (fun W => ofUint_z l l0.1 l0.2 W) _ (eq5_Iz l z (by omega) hz) w
  refine key.mono ?_
  rintro e w' ⟨rfl, hb⟩
  refine ⟨?_, hb⟩
  have : l = z ↔ (0 ≤ z ∧ z < 18446744073709551616) := by split at hl <;> omega
  by_cases h : 0 ≤ z ∧ z < 18446744073709551616
  · rw [decide_eq_true h, decide_eq_true (this.2 h), this.2 h]
  · rw [decide_eq_false h, decide_eq_false (fun e => h (this.1 e))]; rfl
theorem touint_bad (w : World) : Calls Tryd.prog 36 #[I5 true 0] w fun e w' => e = .returned (.tuple #[.int .u64 0, .bool false]) ∧ Below w.heap.size w w' := by
  have low := low_tuple 0 (by decide)
  exact touint_any true _ _ _ _ _ _ _ _ _ _ _ low (fun W => ofUint_z 0 (by decide) (by decide) W) false (eq5_bad 0 (by decide)) w
end Go.Proofs.YtfbkifcgdkgllaaDoor
