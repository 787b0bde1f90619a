/-
  entrepotlaw2.WholePowers: the walk: it answers true for all exponents, either sign. The tables math/bits.deBruijn64tab, internal/strconv.uint64pow10 read as their initialisers lay them.
-/
import Derived.Test.YtbegblkfdnaloaaDoorWholeJ
namespace Go.Proofs.YtbegblkfdnaloaaDoor
open Go.RowKit Go.Shelf
attribute [local go_sem ↓] eql_nat neq_nat eql_int5 neq_int5

set_option maxHeartbeats 1000000 in
set_option maxRecDepth 100000 in
theorem pow_00 (a b i0 j0 i j P S : Int) (neg : Bool) (hi : wrap64 ((IntKind.u64.wrap a).tmod 256) = i0) (hj : wrap64 ((IntKind.u64.wrap b).tmod 256) = j0) (ho : (j0 ≤ i0 ∧ i0 = i ∧ j0 = j) ∨ (i0 < j0 ∧ i0 = j ∧ j0 = i))
    (h0 : 0 ≤ j) (h1 : j ≤ i) (h2 : i ≤ 255) (hqi : i / 64 = 0) (hqj : j / 64 = 0)
    (hP : bits .or .u64 0 (IntKind.u64.wrap (2 ^ (i % 64).toNat)) = P) (hS : bits .or .u64 P (IntKind.u64.wrap (2 ^ (j % 64).toNat)) = S)
    (k1 : ∀ W, Tb W → Calls Tryd.prog 71 #[.agg #[.bool neg, .int .u64 P, .int .u64 0, .int .u64 0, .int .u64 0]] W fun e w' => e = .returned (.bool true) ∧ Below W.heap.size W w')
    (k2 : ∀ W, Tb W → Calls Tryd.prog 71 #[.agg #[.bool neg, .int .u64 S, .int .u64 0, .int .u64 0, .int .u64 0]] W fun e w' => e = .returned (.bool (decide (i - j ≤ 52))) ∧ Below W.heap.size W w') (w : World) (hT : Tabs w) :
    Calls Tryd.prog 15 #[.int .i64 a, .int .i64 b, .bool neg] w fun e w' => e = .returned (.bool true) ∧ Below w.heap.size w w' := by
  have hr0 : 0 ≤ i % 64 := by omega
  have hr1 : i % 64 < 64 := by omega
  have hr2 : 0 ≤ j % 64 := by omega
  have hr3 : j % 64 < 64 := by omega
  have HOX := Lib.hid ho; clear ho
  have HPX := Lib.hid hP; clear hP
  have HSX := Lib.hid hS; clear hS
  have K1X := Lib.hid k1; clear k1
  have K2X := Lib.hid k2; clear k2
  have HTX := Lib.hid hT; clear hT
  go_enter Tryd.func15, Tryd.ntmps15
  go_upto_if 21 with (fail)
  go_cut [7, 8] (fun s7 s8 wx => s7 = .int .i64 i ∧ s8 = .int .i64 j ∧ wx = w)
  case first =>
    rcases HOX.out with ⟨hlt, rfl, rfl⟩ | ⟨hlt, rfl, rfl⟩
    all_goals
      clear HOX
      go_wp2
      go_meet
      (refine ⟨?_, ?_, rfl⟩ <;> first | rfl | rw [hi] | rw [hj])
  case rest =>
    obtain ⟨rfl, rfl, rfl⟩ := hcut
    clear hi hj
    go_wp2_with fail
    rw [HPX.out]
    refine (K1X.out _ (tb_on HTX.out.2 (by repeat (first | (with_reducible exact Below.refl _ _) | (with_reducible refine bal ?_ _) | (with_reducible refine Below.drew ?_) | (with_reducible refine bdn ?_ _))))).mono ?_
    rintro e wc1 ⟨rfl, hb⟩
    have BW1 : Below wc.heap.size wc wc1 := btr (by repeat (first | (with_reducible exact Below.refl _ _) | (with_reducible refine bal ?_ _) | (with_reducible refine Below.drew ?_) | (with_reducible refine bdn ?_ _))) hb
    have N1 : Row4 wc1 wc.heap.size (.int .u64 P) (.int .u64 0) (.int .u64 0) (.int .u64 0) := Row4.keep hb (by repeat (first | (with_reducible exact Row4.new _ _ _ _ _) | ((with_reducible refine Row4.new' _ ?_ _ _ _ _); (simp; done)) | (with_reducible refine Row4.alloc ?_ _) | (with_reducible refine Row4.drew ?_)))
    clear hb
    obtain ⟨Nc0, Nc1, Nc2, Nc3⟩ := N1.four
    obtain ⟨Nf0, Nf1, Nf2, Nf3⟩ := N1.free4
    have ltN := N1.lt
    go_upto_region 8 with (fail)
    rw [HSX.out]
    go_name_world wc2 hw
    have BW2 : Below wc.heap.size wc wc2 := by rw [← hw]; exact bsc BW1 (by simp) _
    have N2 : Row4 wc2 wc.heap.size (.int .u64 S) (.int .u64 0) (.int .u64 0) (.int .u64 0) := by
      rw [← hw]
      have h := N1
      unfold Row4 at h ⊢
      have := heap_setCell_same _ wc.heap.size 0 _ _ (.int .u64 S) h
      simpa using this
    clear N1 BW1 hw
    go_wp2_with fail
    refine (told2_true _ (tabs_on HTX.out (by repeat (first | (with_reducible exact BW2) | (with_reducible refine bal ?_ _) | (with_reducible refine Below.drew ?_) | (with_reducible refine bdn ?_ _))))).mono ?_
    rintro e wc3 ⟨rfl, hb⟩
    have BW3 : Below wc.heap.size wc wc3 := btr (by repeat (first | (with_reducible exact BW2) | (with_reducible refine bal ?_ _) | (with_reducible refine Below.drew ?_) | (with_reducible refine bdn ?_ _))) hb
    have N3 : Row4 wc3 wc.heap.size (.int .u64 S) (.int .u64 0) (.int .u64 0) (.int .u64 0) := Row4.keep hb (by repeat (first | (with_reducible exact N2) | (with_reducible refine Row4.alloc ?_ _) | (with_reducible refine Row4.drew ?_)))
    clear N2
    clear BW2
    clear hb
    obtain ⟨Nc0, Nc1, Nc2, Nc3⟩ := N3.four
    obtain ⟨Nf0, Nf1, Nf2, Nf3⟩ := N3.free4
    go_wp2_with fail
    refine (K2X.out _ (tb_on HTX.out.2 (by repeat (first | (with_reducible exact BW3) | (with_reducible refine bal ?_ _) | (with_reducible refine Below.drew ?_) | (with_reducible refine bdn ?_ _))))).mono ?_
    rintro e wc4 ⟨rfl, hb⟩
    have BW4 : Below wc.heap.size wc wc4 := btr (by repeat (first | (with_reducible exact BW3) | (with_reducible refine bal ?_ _) | (with_reducible refine Below.drew ?_) | (with_reducible refine bdn ?_ _))) hb
    have N4 : Row4 wc4 wc.heap.size (.int .u64 S) (.int .u64 0) (.int .u64 0) (.int .u64 0) := Row4.keep hb (by repeat (first | (with_reducible exact N3) | (with_reducible refine Row4.alloc ?_ _) | (with_reducible refine Row4.drew ?_)))
    clear N3
    clear BW3
    clear hb
    go_wp2
    go_ret
    exact ⟨rfl, BW4⟩

set_option maxHeartbeats 1000000 in
set_option maxRecDepth 100000 in
theorem pow_10 (a b i0 j0 i j P Q : Int) (neg : Bool) (hi : wrap64 ((IntKind.u64.wrap a).tmod 256) = i0) (hj : wrap64 ((IntKind.u64.wrap b).tmod 256) = j0) (ho : (j0 ≤ i0 ∧ i0 = i ∧ j0 = j) ∨ (i0 < j0 ∧ i0 = j ∧ j0 = i))
    (h0 : 0 ≤ j) (h1 : j ≤ i) (h2 : i ≤ 255) (hqi : i / 64 = 1) (hqj : j / 64 = 0)
    (hP : bits .or .u64 0 (IntKind.u64.wrap (2 ^ (i % 64).toNat)) = P) (hS : bits .or .u64 0 (IntKind.u64.wrap (2 ^ (j % 64).toNat)) = Q)
    (k1 : ∀ W, Tb W → Calls Tryd.prog 71 #[.agg #[.bool neg, .int .u64 0, .int .u64 P, .int .u64 0, .int .u64 0]] W fun e w' => e = .returned (.bool true) ∧ Below W.heap.size W w')
    (k2 : ∀ W, Tb W → Calls Tryd.prog 71 #[.agg #[.bool neg, .int .u64 Q, .int .u64 P, .int .u64 0, .int .u64 0]] W fun e w' => e = .returned (.bool (decide (i - j ≤ 52))) ∧ Below W.heap.size W w') (w : World) (hT : Tabs w) :
    Calls Tryd.prog 15 #[.int .i64 a, .int .i64 b, .bool neg] w fun e w' => e = .returned (.bool true) ∧ Below w.heap.size w w' := by
  have hr0 : 0 ≤ i % 64 := by omega
  have hr1 : i % 64 < 64 := by omega
  have hr2 : 0 ≤ j % 64 := by omega
  have hr3 : j % 64 < 64 := by omega
  have HOX := Lib.hid ho; clear ho
  have HPX := Lib.hid hP; clear hP
  have HSX := Lib.hid hS; clear hS
  have K1X := Lib.hid k1; clear k1
  have K2X := Lib.hid k2; clear k2
  have HTX := Lib.hid hT; clear hT
  go_enter Tryd.func15, Tryd.ntmps15
  go_upto_if 21 with (fail)
  go_cut [7, 8] (fun s7 s8 wx => s7 = .int .i64 i ∧ s8 = .int .i64 j ∧ wx = w)
  case first =>
    rcases HOX.out with ⟨hlt, rfl, rfl⟩ | ⟨hlt, rfl, rfl⟩
    all_goals
      clear HOX
      go_wp2
      go_meet
      (refine ⟨?_, ?_, rfl⟩ <;> first | rfl | rw [hi] | rw [hj])
  case rest =>
    obtain ⟨rfl, rfl, rfl⟩ := hcut
    clear hi hj
    go_wp2_with fail
    rw [HPX.out]
    refine (K1X.out _ (tb_on HTX.out.2 (by repeat (first | (with_reducible exact Below.refl _ _) | (with_reducible refine bal ?_ _) | (with_reducible refine Below.drew ?_) | (with_reducible refine bdn ?_ _))))).mono ?_
    rintro e wc1 ⟨rfl, hb⟩
    have BW1 : Below wc.heap.size wc wc1 := btr (by repeat (first | (with_reducible exact Below.refl _ _) | (with_reducible refine bal ?_ _) | (with_reducible refine Below.drew ?_) | (with_reducible refine bdn ?_ _))) hb
    have N1 : Row4 wc1 wc.heap.size (.int .u64 0) (.int .u64 P) (.int .u64 0) (.int .u64 0) := Row4.keep hb (by repeat (first | (with_reducible exact Row4.new _ _ _ _ _) | ((with_reducible refine Row4.new' _ ?_ _ _ _ _); (simp; done)) | (with_reducible refine Row4.alloc ?_ _) | (with_reducible refine Row4.drew ?_)))
    clear hb
    obtain ⟨Nc0, Nc1, Nc2, Nc3⟩ := N1.four
    obtain ⟨Nf0, Nf1, Nf2, Nf3⟩ := N1.free4
    have ltN := N1.lt
    go_upto_region 8 with (fail)
    rw [HSX.out]
    go_name_world wc2 hw
    have BW2 : Below wc.heap.size wc wc2 := by rw [← hw]; exact bsc BW1 (by simp) _
    have N2 : Row4 wc2 wc.heap.size (.int .u64 Q) (.int .u64 P) (.int .u64 0) (.int .u64 0) := by
      rw [← hw]
      have h := N1
      unfold Row4 at h ⊢
      have := heap_setCell_same _ wc.heap.size 0 _ _ (.int .u64 Q) h
      simpa using this
    clear N1 BW1 hw
    go_wp2_with fail
    refine (told2_true _ (tabs_on HTX.out (by repeat (first | (with_reducible exact BW2) | (with_reducible refine bal ?_ _) | (with_reducible refine Below.drew ?_) | (with_reducible refine bdn ?_ _))))).mono ?_
    rintro e wc3 ⟨rfl, hb⟩
    have BW3 : Below wc.heap.size wc wc3 := btr (by repeat (first | (with_reducible exact BW2) | (with_reducible refine bal ?_ _) | (with_reducible refine Below.drew ?_) | (with_reducible refine bdn ?_ _))) hb
    have N3 : Row4 wc3 wc.heap.size (.int .u64 Q) (.int .u64 P) (.int .u64 0) (.int .u64 0) := Row4.keep hb (by repeat (first | (with_reducible exact N2) | (with_reducible refine Row4.alloc ?_ _) | (with_reducible refine Row4.drew ?_)))
    clear N2
    clear BW2
    clear hb
    obtain ⟨Nc0, Nc1, Nc2, Nc3⟩ := N3.four
    obtain ⟨Nf0, Nf1, Nf2, Nf3⟩ := N3.free4
    go_wp2_with fail
    refine (K2X.out _ (tb_on HTX.out.2 (by repeat (first | (with_reducible exact BW3) | (with_reducible refine bal ?_ _) | (with_reducible refine Below.drew ?_) | (with_reducible refine bdn ?_ _))))).mono ?_
    rintro e wc4 ⟨rfl, hb⟩
    have BW4 : Below wc.heap.size wc wc4 := btr (by repeat (first | (with_reducible exact BW3) | (with_reducible refine bal ?_ _) | (with_reducible refine Below.drew ?_) | (with_reducible refine bdn ?_ _))) hb
    have N4 : Row4 wc4 wc.heap.size (.int .u64 Q) (.int .u64 P) (.int .u64 0) (.int .u64 0) := Row4.keep hb (by repeat (first | (with_reducible exact N3) | (with_reducible refine Row4.alloc ?_ _) | (with_reducible refine Row4.drew ?_)))
    clear N3
    clear BW3
    clear hb
    go_wp2
    go_ret
    exact ⟨rfl, BW4⟩

set_option maxHeartbeats 1000000 in
set_option maxRecDepth 100000 in
theorem pow_11 (a b i0 j0 i j P S : Int) (neg : Bool) (hi : wrap64 ((IntKind.u64.wrap a).tmod 256) = i0) (hj : wrap64 ((IntKind.u64.wrap b).tmod 256) = j0) (ho : (j0 ≤ i0 ∧ i0 = i ∧ j0 = j) ∨ (i0 < j0 ∧ i0 = j ∧ j0 = i))
    (h0 : 0 ≤ j) (h1 : j ≤ i) (h2 : i ≤ 255) (hqi : i / 64 = 1) (hqj : j / 64 = 1)
    (hP : bits .or .u64 0 (IntKind.u64.wrap (2 ^ (i % 64).toNat)) = P) (hS : bits .or .u64 P (IntKind.u64.wrap (2 ^ (j % 64).toNat)) = S)
    (k1 : ∀ W, Tb W → Calls Tryd.prog 71 #[.agg #[.bool neg, .int .u64 0, .int .u64 P, .int .u64 0, .int .u64 0]] W fun e w' => e = .returned (.bool true) ∧ Below W.heap.size W w')
    (k2 : ∀ W, Tb W → Calls Tryd.prog 71 #[.agg #[.bool neg, .int .u64 0, .int .u64 S, .int .u64 0, .int .u64 0]] W fun e w' => e = .returned (.bool (decide (i - j ≤ 52))) ∧ Below W.heap.size W w') (w : World) (hT : Tabs w) :
    Calls Tryd.prog 15 #[.int .i64 a, .int .i64 b, .bool neg] w fun e w' => e = .returned (.bool true) ∧ Below w.heap.size w w' := by
  have hr0 : 0 ≤ i % 64 := by omega
  have hr1 : i % 64 < 64 := by omega
  have hr2 : 0 ≤ j % 64 := by omega
  have hr3 : j % 64 < 64 := by omega
  have HOX := Lib.hid ho; clear ho
  have HPX := Lib.hid hP; clear hP
  have HSX := Lib.hid hS; clear hS
  have K1X := Lib.hid k1; clear k1
  have K2X := Lib.hid k2; clear k2
  have HTX := Lib.hid hT; clear hT
  go_enter Tryd.func15, Tryd.ntmps15
  go_upto_if 21 with (fail)
  go_cut [7, 8] (fun s7 s8 wx => s7 = .int .i64 i ∧ s8 = .int .i64 j ∧ wx = w)
  case first =>
    rcases HOX.out with ⟨hlt, rfl, rfl⟩ | ⟨hlt, rfl, rfl⟩
    all_goals
      clear HOX
      go_wp2
      go_meet
      (refine ⟨?_, ?_, rfl⟩ <;> first | rfl | rw [hi] | rw [hj])
  case rest =>
    obtain ⟨rfl, rfl, rfl⟩ := hcut
    clear hi hj
    go_wp2_with fail
    rw [HPX.out]
    refine (K1X.out _ (tb_on HTX.out.2 (by repeat (first | (with_reducible exact Below.refl _ _) | (with_reducible refine bal ?_ _) | (with_reducible refine Below.drew ?_) | (with_reducible refine bdn ?_ _))))).mono ?_
    rintro e wc1 ⟨rfl, hb⟩
    have BW1 : Below wc.heap.size wc wc1 := btr (by repeat (first | (with_reducible exact Below.refl _ _) | (with_reducible refine bal ?_ _) | (with_reducible refine Below.drew ?_) | (with_reducible refine bdn ?_ _))) hb
    have N1 : Row4 wc1 wc.heap.size (.int .u64 0) (.int .u64 P) (.int .u64 0) (.int .u64 0) := Row4.keep hb (by repeat (first | (with_reducible exact Row4.new _ _ _ _ _) | ((with_reducible refine Row4.new' _ ?_ _ _ _ _); (simp; done)) | (with_reducible refine Row4.alloc ?_ _) | (with_reducible refine Row4.drew ?_)))
    clear hb
    obtain ⟨Nc0, Nc1, Nc2, Nc3⟩ := N1.four
    obtain ⟨Nf0, Nf1, Nf2, Nf3⟩ := N1.free4
    have ltN := N1.lt
    go_upto_region 8 with (fail)
    rw [HSX.out]
    go_name_world wc2 hw
    have BW2 : Below wc.heap.size wc wc2 := by rw [← hw]; exact bsc BW1 (by simp) _
    have N2 : Row4 wc2 wc.heap.size (.int .u64 0) (.int .u64 S) (.int .u64 0) (.int .u64 0) := by
      rw [← hw]
      have h := N1
      unfold Row4 at h ⊢
      have := heap_setCell_same _ wc.heap.size 1 _ _ (.int .u64 S) h
      simpa using this
    clear N1 BW1 hw
    go_wp2_with fail
    refine (told2_true _ (tabs_on HTX.out (by repeat (first | (with_reducible exact BW2) | (with_reducible refine bal ?_ _) | (with_reducible refine Below.drew ?_) | (with_reducible refine bdn ?_ _))))).mono ?_
    rintro e wc3 ⟨rfl, hb⟩
    have BW3 : Below wc.heap.size wc wc3 := btr (by repeat (first | (with_reducible exact BW2) | (with_reducible refine bal ?_ _) | (with_reducible refine Below.drew ?_) | (with_reducible refine bdn ?_ _))) hb
    have N3 : Row4 wc3 wc.heap.size (.int .u64 0) (.int .u64 S) (.int .u64 0) (.int .u64 0) := Row4.keep hb (by repeat (first | (with_reducible exact N2) | (with_reducible refine Row4.alloc ?_ _) | (with_reducible refine Row4.drew ?_)))
    clear N2
    clear BW2
    clear hb
    obtain ⟨Nc0, Nc1, Nc2, Nc3⟩ := N3.four
    obtain ⟨Nf0, Nf1, Nf2, Nf3⟩ := N3.free4
    go_wp2_with fail
    refine (K2X.out _ (tb_on HTX.out.2 (by repeat (first | (with_reducible exact BW3) | (with_reducible refine bal ?_ _) | (with_reducible refine Below.drew ?_) | (with_reducible refine bdn ?_ _))))).mono ?_
    rintro e wc4 ⟨rfl, hb⟩
    have BW4 : Below wc.heap.size wc wc4 := btr (by repeat (first | (with_reducible exact BW3) | (with_reducible refine bal ?_ _) | (with_reducible refine Below.drew ?_) | (with_reducible refine bdn ?_ _))) hb
    have N4 : Row4 wc4 wc.heap.size (.int .u64 0) (.int .u64 S) (.int .u64 0) (.int .u64 0) := Row4.keep hb (by repeat (first | (with_reducible exact N3) | (with_reducible refine Row4.alloc ?_ _) | (with_reducible refine Row4.drew ?_)))
    clear N3
    clear BW3
    clear hb
    go_wp2
    go_ret
    exact ⟨rfl, BW4⟩

set_option maxHeartbeats 1000000 in
set_option maxRecDepth 100000 in
theorem pow_20 (a b i0 j0 i j P Q : Int) (neg : Bool) (hi : wrap64 ((IntKind.u64.wrap a).tmod 256) = i0) (hj : wrap64 ((IntKind.u64.wrap b).tmod 256) = j0) (ho : (j0 ≤ i0 ∧ i0 = i ∧ j0 = j) ∨ (i0 < j0 ∧ i0 = j ∧ j0 = i))
    (h0 : 0 ≤ j) (h1 : j ≤ i) (h2 : i ≤ 255) (hqi : i / 64 = 2) (hqj : j / 64 = 0)
    (hP : bits .or .u64 0 (IntKind.u64.wrap (2 ^ (i % 64).toNat)) = P) (hS : bits .or .u64 0 (IntKind.u64.wrap (2 ^ (j % 64).toNat)) = Q)
    (k1 : ∀ W, Tb W → Calls Tryd.prog 71 #[.agg #[.bool neg, .int .u64 0, .int .u64 0, .int .u64 P, .int .u64 0]] W fun e w' => e = .returned (.bool true) ∧ Below W.heap.size W w')
    (k2 : ∀ W, Tb W → Calls Tryd.prog 71 #[.agg #[.bool neg, .int .u64 Q, .int .u64 0, .int .u64 P, .int .u64 0]] W fun e w' => e = .returned (.bool (decide (i - j ≤ 52))) ∧ Below W.heap.size W w') (w : World) (hT : Tabs w) :
    Calls Tryd.prog 15 #[.int .i64 a, .int .i64 b, .bool neg] w fun e w' => e = .returned (.bool true) ∧ Below w.heap.size w w' := by
  have hr0 : 0 ≤ i % 64 := by omega
  have hr1 : i % 64 < 64 := by omega
  have hr2 : 0 ≤ j % 64 := by omega
  have hr3 : j % 64 < 64 := by omega
  have HOX := Lib.hid ho; clear ho
  have HPX := Lib.hid hP; clear hP
  have HSX := Lib.hid hS; clear hS
  have K1X := Lib.hid k1; clear k1
  have K2X := Lib.hid k2; clear k2
  have HTX := Lib.hid hT; clear hT
  go_enter Tryd.func15, Tryd.ntmps15
  go_upto_if 21 with (fail)
  go_cut [7, 8] (fun s7 s8 wx => s7 = .int .i64 i ∧ s8 = .int .i64 j ∧ wx = w)
  case first =>
    rcases HOX.out with ⟨hlt, rfl, rfl⟩ | ⟨hlt, rfl, rfl⟩
    all_goals
      clear HOX
      go_wp2
      go_meet
      (refine ⟨?_, ?_, rfl⟩ <;> first | rfl | rw [hi] | rw [hj])
  case rest =>
    obtain ⟨rfl, rfl, rfl⟩ := hcut
    clear hi hj
    go_wp2_with fail
    rw [HPX.out]
    refine (K1X.out _ (tb_on HTX.out.2 (by repeat (first | (with_reducible exact Below.refl _ _) | (with_reducible refine bal ?_ _) | (with_reducible refine Below.drew ?_) | (with_reducible refine bdn ?_ _))))).mono ?_
    rintro e wc1 ⟨rfl, hb⟩
    have BW1 : Below wc.heap.size wc wc1 := btr (by repeat (first | (with_reducible exact Below.refl _ _) | (with_reducible refine bal ?_ _) | (with_reducible refine Below.drew ?_) | (with_reducible refine bdn ?_ _))) hb
    have N1 : Row4 wc1 wc.heap.size (.int .u64 0) (.int .u64 0) (.int .u64 P) (.int .u64 0) := Row4.keep hb (by repeat (first | (with_reducible exact Row4.new _ _ _ _ _) | ((with_reducible refine Row4.new' _ ?_ _ _ _ _); (simp; done)) | (with_reducible refine Row4.alloc ?_ _) | (with_reducible refine Row4.drew ?_)))
    clear hb
    obtain ⟨Nc0, Nc1, Nc2, Nc3⟩ := N1.four
    obtain ⟨Nf0, Nf1, Nf2, Nf3⟩ := N1.free4
    have ltN := N1.lt
    go_upto_region 8 with (fail)
    rw [HSX.out]
    go_name_world wc2 hw
    have BW2 : Below wc.heap.size wc wc2 := by rw [← hw]; exact bsc BW1 (by simp) _
    have N2 : Row4 wc2 wc.heap.size (.int .u64 Q) (.int .u64 0) (.int .u64 P) (.int .u64 0) := by
      rw [← hw]
      have h := N1
      unfold Row4 at h ⊢
      have := heap_setCell_same _ wc.heap.size 0 _ _ (.int .u64 Q) h
      simpa using this
    clear N1 BW1 hw
    go_wp2_with fail
    refine (told2_true _ (tabs_on HTX.out (by repeat (first | (with_reducible exact BW2) | (with_reducible refine bal ?_ _) | (with_reducible refine Below.drew ?_) | (with_reducible refine bdn ?_ _))))).mono ?_
    rintro e wc3 ⟨rfl, hb⟩
    have BW3 : Below wc.heap.size wc wc3 := btr (by repeat (first | (with_reducible exact BW2) | (with_reducible refine bal ?_ _) | (with_reducible refine Below.drew ?_) | (with_reducible refine bdn ?_ _))) hb
    have N3 : Row4 wc3 wc.heap.size (.int .u64 Q) (.int .u64 0) (.int .u64 P) (.int .u64 0) := Row4.keep hb (by repeat (first | (with_reducible exact N2) | (with_reducible refine Row4.alloc ?_ _) | (with_reducible refine Row4.drew ?_)))
    clear N2
    clear BW2
    clear hb
    obtain ⟨Nc0, Nc1, Nc2, Nc3⟩ := N3.four
    obtain ⟨Nf0, Nf1, Nf2, Nf3⟩ := N3.free4
    go_wp2_with fail
    refine (K2X.out _ (tb_on HTX.out.2 (by repeat (first | (with_reducible exact BW3) | (with_reducible refine bal ?_ _) | (with_reducible refine Below.drew ?_) | (with_reducible refine bdn ?_ _))))).mono ?_
    rintro e wc4 ⟨rfl, hb⟩
    have BW4 : Below wc.heap.size wc wc4 := btr (by repeat (first | (with_reducible exact BW3) | (with_reducible refine bal ?_ _) | (with_reducible refine Below.drew ?_) | (with_reducible refine bdn ?_ _))) hb
    have N4 : Row4 wc4 wc.heap.size (.int .u64 Q) (.int .u64 0) (.int .u64 P) (.int .u64 0) := Row4.keep hb (by repeat (first | (with_reducible exact N3) | (with_reducible refine Row4.alloc ?_ _) | (with_reducible refine Row4.drew ?_)))
    clear N3
    clear BW3
    clear hb
    go_wp2
    go_ret
    exact ⟨rfl, BW4⟩

set_option maxHeartbeats 1000000 in
set_option maxRecDepth 100000 in
theorem pow_21 (a b i0 j0 i j P Q : Int) (neg : Bool) (hi : wrap64 ((IntKind.u64.wrap a).tmod 256) = i0) (hj : wrap64 ((IntKind.u64.wrap b).tmod 256) = j0) (ho : (j0 ≤ i0 ∧ i0 = i ∧ j0 = j) ∨ (i0 < j0 ∧ i0 = j ∧ j0 = i))
    (h0 : 0 ≤ j) (h1 : j ≤ i) (h2 : i ≤ 255) (hqi : i / 64 = 2) (hqj : j / 64 = 1)
    (hP : bits .or .u64 0 (IntKind.u64.wrap (2 ^ (i % 64).toNat)) = P) (hS : bits .or .u64 0 (IntKind.u64.wrap (2 ^ (j % 64).toNat)) = Q)
    (k1 : ∀ W, Tb W → Calls Tryd.prog 71 #[.agg #[.bool neg, .int .u64 0, .int .u64 0, .int .u64 P, .int .u64 0]] W fun e w' => e = .returned (.bool true) ∧ Below W.heap.size W w')
    (k2 : ∀ W, Tb W → Calls Tryd.prog 71 #[.agg #[.bool neg, .int .u64 0, .int .u64 Q, .int .u64 P, .int .u64 0]] W fun e w' => e = .returned (.bool (decide (i - j ≤ 52))) ∧ Below W.heap.size W w') (w : World) (hT : Tabs w) :
    Calls Tryd.prog 15 #[.int .i64 a, .int .i64 b, .bool neg] w fun e w' => e = .returned (.bool true) ∧ Below w.heap.size w w' := by
  have hr0 : 0 ≤ i % 64 := by omega
  have hr1 : i % 64 < 64 := by omega
  have hr2 : 0 ≤ j % 64 := by omega
  have hr3 : j % 64 < 64 := by omega
  have HOX := Lib.hid ho; clear ho
  have HPX := Lib.hid hP; clear hP
  have HSX := Lib.hid hS; clear hS
  have K1X := Lib.hid k1; clear k1
  have K2X := Lib.hid k2; clear k2
  have HTX := Lib.hid hT; clear hT
  go_enter Tryd.func15, Tryd.ntmps15
  go_upto_if 21 with (fail)
  go_cut [7, 8] (fun s7 s8 wx => s7 = .int .i64 i ∧ s8 = .int .i64 j ∧ wx = w)
  case first =>
    rcases HOX.out with ⟨hlt, rfl, rfl⟩ | ⟨hlt, rfl, rfl⟩
    all_goals
      clear HOX
      go_wp2
      go_meet
      (refine ⟨?_, ?_, rfl⟩ <;> first | rfl | rw [hi] | rw [hj])
  case rest =>
    obtain ⟨rfl, rfl, rfl⟩ := hcut
    clear hi hj
    go_wp2_with fail
    rw [HPX.out]
    refine (K1X.out _ (tb_on HTX.out.2 (by repeat (first | (with_reducible exact Below.refl _ _) | (with_reducible refine bal ?_ _) | (with_reducible refine Below.drew ?_) | (with_reducible refine bdn ?_ _))))).mono ?_
    rintro e wc1 ⟨rfl, hb⟩
    have BW1 : Below wc.heap.size wc wc1 := btr (by repeat (first | (with_reducible exact Below.refl _ _) | (with_reducible refine bal ?_ _) | (with_reducible refine Below.drew ?_) | (with_reducible refine bdn ?_ _))) hb
    have N1 : Row4 wc1 wc.heap.size (.int .u64 0) (.int .u64 0) (.int .u64 P) (.int .u64 0) := Row4.keep hb (by repeat (first | (with_reducible exact Row4.new _ _ _ _ _) | ((with_reducible refine Row4.new' _ ?_ _ _ _ _); (simp; done)) | (with_reducible refine Row4.alloc ?_ _) | (with_reducible refine Row4.drew ?_)))
    clear hb
    obtain ⟨Nc0, Nc1, Nc2, Nc3⟩ := N1.four
    obtain ⟨Nf0, Nf1, Nf2, Nf3⟩ := N1.free4
    have ltN := N1.lt
    go_upto_region 8 with (fail)
    rw [HSX.out]
    go_name_world wc2 hw
    have BW2 : Below wc.heap.size wc wc2 := by rw [← hw]; exact bsc BW1 (by simp) _
    have N2 : Row4 wc2 wc.heap.size (.int .u64 0) (.int .u64 Q) (.int .u64 P) (.int .u64 0) := by
      rw [← hw]
      have h := N1
      unfold Row4 at h ⊢
      have := heap_setCell_same _ wc.heap.size 1 _ _ (.int .u64 Q) h
      simpa using this
    clear N1 BW1 hw
    go_wp2_with fail
    refine (told2_true _ (tabs_on HTX.out (by repeat (first | (with_reducible exact BW2) | (with_reducible refine bal ?_ _) | (with_reducible refine Below.drew ?_) | (with_reducible refine bdn ?_ _))))).mono ?_
    rintro e wc3 ⟨rfl, hb⟩
    have BW3 : Below wc.heap.size wc wc3 := btr (by repeat (first | (with_reducible exact BW2) | (with_reducible refine bal ?_ _) | (with_reducible refine Below.drew ?_) | (with_reducible refine bdn ?_ _))) hb
    have N3 : Row4 wc3 wc.heap.size (.int .u64 0) (.int .u64 Q) (.int .u64 P) (.int .u64 0) := Row4.keep hb (by repeat (first | (with_reducible exact N2) | (with_reducible refine Row4.alloc ?_ _) | (with_reducible refine Row4.drew ?_)))
    clear N2
    clear BW2
    clear hb
    obtain ⟨Nc0, Nc1, Nc2, Nc3⟩ := N3.four
    obtain ⟨Nf0, Nf1, Nf2, Nf3⟩ := N3.free4
    go_wp2_with fail
    refine (K2X.out _ (tb_on HTX.out.2 (by repeat (first | (with_reducible exact BW3) | (with_reducible refine bal ?_ _) | (with_reducible refine Below.drew ?_) | (with_reducible refine bdn ?_ _))))).mono ?_
    rintro e wc4 ⟨rfl, hb⟩
    have BW4 : Below wc.heap.size wc wc4 := btr (by repeat (first | (with_reducible exact BW3) | (with_reducible refine bal ?_ _) | (with_reducible refine Below.drew ?_) | (with_reducible refine bdn ?_ _))) hb
    have N4 : Row4 wc4 wc.heap.size (.int .u64 0) (.int .u64 Q) (.int .u64 P) (.int .u64 0) := Row4.keep hb (by repeat (first | (with_reducible exact N3) | (with_reducible refine Row4.alloc ?_ _) | (with_reducible refine Row4.drew ?_)))
    clear N3
    clear BW3
    clear hb
    go_wp2
    go_ret
    exact ⟨rfl, BW4⟩

set_option maxHeartbeats 1000000 in
set_option maxRecDepth 100000 in
theorem pow_22 (a b i0 j0 i j P S : Int) (neg : Bool) (hi : wrap64 ((IntKind.u64.wrap a).tmod 256) = i0) (hj : wrap64 ((IntKind.u64.wrap b).tmod 256) = j0) (ho : (j0 ≤ i0 ∧ i0 = i ∧ j0 = j) ∨ (i0 < j0 ∧ i0 = j ∧ j0 = i))
    (h0 : 0 ≤ j) (h1 : j ≤ i) (h2 : i ≤ 255) (hqi : i / 64 = 2) (hqj : j / 64 = 2)
    (hP : bits .or .u64 0 (IntKind.u64.wrap (2 ^ (i % 64).toNat)) = P) (hS : bits .or .u64 P (IntKind.u64.wrap (2 ^ (j % 64).toNat)) = S)
    (k1 : ∀ W, Tb W → Calls Tryd.prog 71 #[.agg #[.bool neg, .int .u64 0, .int .u64 0, .int .u64 P, .int .u64 0]] W fun e w' => e = .returned (.bool true) ∧ Below W.heap.size W w')
    (k2 : ∀ W, Tb W → Calls Tryd.prog 71 #[.agg #[.bool neg, .int .u64 0, .int .u64 0, .int .u64 S, .int .u64 0]] W fun e w' => e = .returned (.bool (decide (i - j ≤ 52))) ∧ Below W.heap.size W w') (w : World) (hT : Tabs w) :
    Calls Tryd.prog 15 #[.int .i64 a, .int .i64 b, .bool neg] w fun e w' => e = .returned (.bool true) ∧ Below w.heap.size w w' := by
  have hr0 : 0 ≤ i % 64 := by omega
  have hr1 : i % 64 < 64 := by omega
  have hr2 : 0 ≤ j % 64 := by omega
  have hr3 : j % 64 < 64 := by omega
  have HOX := Lib.hid ho; clear ho
  have HPX := Lib.hid hP; clear hP
  have HSX := Lib.hid hS; clear hS
  have K1X := Lib.hid k1; clear k1
  have K2X := Lib.hid k2; clear k2
  have HTX := Lib.hid hT; clear hT
  go_enter Tryd.func15, Tryd.ntmps15
  go_upto_if 21 with (fail)
  go_cut [7, 8] (fun s7 s8 wx => s7 = .int .i64 i ∧ s8 = .int .i64 j ∧ wx = w)
  case first =>
    rcases HOX.out with ⟨hlt, rfl, rfl⟩ | ⟨hlt, rfl, rfl⟩
    all_goals
      clear HOX
      go_wp2
      go_meet
      (refine ⟨?_, ?_, rfl⟩ <;> first | rfl | rw [hi] | rw [hj])
  case rest =>
    obtain ⟨rfl, rfl, rfl⟩ := hcut
    clear hi hj
    go_wp2_with fail
    rw [HPX.out]
    refine (K1X.out _ (tb_on HTX.out.2 (by repeat (first | (with_reducible exact Below.refl _ _) | (with_reducible refine bal ?_ _) | (with_reducible refine Below.drew ?_) | (with_reducible refine bdn ?_ _))))).mono ?_
    rintro e wc1 ⟨rfl, hb⟩
    have BW1 : Below wc.heap.size wc wc1 := btr (by repeat (first | (with_reducible exact Below.refl _ _) | (with_reducible refine bal ?_ _) | (with_reducible refine Below.drew ?_) | (with_reducible refine bdn ?_ _))) hb
    have N1 : Row4 wc1 wc.heap.size (.int .u64 0) (.int .u64 0) (.int .u64 P) (.int .u64 0) := Row4.keep hb (by repeat (first | (with_reducible exact Row4.new _ _ _ _ _) | ((with_reducible refine Row4.new' _ ?_ _ _ _ _); (simp; done)) | (with_reducible refine Row4.alloc ?_ _) | (with_reducible refine Row4.drew ?_)))
    clear hb
    obtain ⟨Nc0, Nc1, Nc2, Nc3⟩ := N1.four
    obtain ⟨Nf0, Nf1, Nf2, Nf3⟩ := N1.free4
    have ltN := N1.lt
    go_upto_region 8 with (fail)
    rw [HSX.out]
    go_name_world wc2 hw
    have BW2 : Below wc.heap.size wc wc2 := by rw [← hw]; exact bsc BW1 (by simp) _
    have N2 : Row4 wc2 wc.heap.size (.int .u64 0) (.int .u64 0) (.int .u64 S) (.int .u64 0) := by
      rw [← hw]
      have h := N1
      unfold Row4 at h ⊢
      have := heap_setCell_same _ wc.heap.size 2 _ _ (.int .u64 S) h
      simpa using this
    clear N1 BW1 hw
    go_wp2_with fail
    refine (told2_true _ (tabs_on HTX.out (by repeat (first | (with_reducible exact BW2) | (with_reducible refine bal ?_ _) | (with_reducible refine Below.drew ?_) | (with_reducible refine bdn ?_ _))))).mono ?_
    rintro e wc3 ⟨rfl, hb⟩
    have BW3 : Below wc.heap.size wc wc3 := btr (by repeat (first | (with_reducible exact BW2) | (with_reducible refine bal ?_ _) | (with_reducible refine Below.drew ?_) | (with_reducible refine bdn ?_ _))) hb
    have N3 : Row4 wc3 wc.heap.size (.int .u64 0) (.int .u64 0) (.int .u64 S) (.int .u64 0) := Row4.keep hb (by repeat (first | (with_reducible exact N2) | (with_reducible refine Row4.alloc ?_ _) | (with_reducible refine Row4.drew ?_)))
    clear N2
    clear BW2
    clear hb
    obtain ⟨Nc0, Nc1, Nc2, Nc3⟩ := N3.four
    obtain ⟨Nf0, Nf1, Nf2, Nf3⟩ := N3.free4
    go_wp2_with fail
    refine (K2X.out _ (tb_on HTX.out.2 (by repeat (first | (with_reducible exact BW3) | (with_reducible refine bal ?_ _) | (with_reducible refine Below.drew ?_) | (with_reducible refine bdn ?_ _))))).mono ?_
    rintro e wc4 ⟨rfl, hb⟩
    have BW4 : Below wc.heap.size wc wc4 := btr (by repeat (first | (with_reducible exact BW3) | (with_reducible refine bal ?_ _) | (with_reducible refine Below.drew ?_) | (with_reducible refine bdn ?_ _))) hb
    have N4 : Row4 wc4 wc.heap.size (.int .u64 0) (.int .u64 0) (.int .u64 S) (.int .u64 0) := Row4.keep hb (by repeat (first | (with_reducible exact N3) | (with_reducible refine Row4.alloc ?_ _) | (with_reducible refine Row4.drew ?_)))
    clear N3
    clear BW3
    clear hb
    go_wp2
    go_ret
    exact ⟨rfl, BW4⟩

set_option maxHeartbeats 1000000 in
set_option maxRecDepth 100000 in
theorem pow_30 (a b i0 j0 i j P Q : Int) (neg : Bool) (hi : wrap64 ((IntKind.u64.wrap a).tmod 256) = i0) (hj : wrap64 ((IntKind.u64.wrap b).tmod 256) = j0) (ho : (j0 ≤ i0 ∧ i0 = i ∧ j0 = j) ∨ (i0 < j0 ∧ i0 = j ∧ j0 = i))
    (h0 : 0 ≤ j) (h1 : j ≤ i) (h2 : i ≤ 255) (hqi : i / 64 = 3) (hqj : j / 64 = 0)
    (hP : bits .or .u64 0 (IntKind.u64.wrap (2 ^ (i % 64).toNat)) = P) (hS : bits .or .u64 0 (IntKind.u64.wrap (2 ^ (j % 64).toNat)) = Q)
    (k1 : ∀ W, Tb W → Calls Tryd.prog 71 #[.agg #[.bool neg, .int .u64 0, .int .u64 0, .int .u64 0, .int .u64 P]] W fun e w' => e = .returned (.bool true) ∧ Below W.heap.size W w')
    (k2 : ∀ W, Tb W → Calls Tryd.prog 71 #[.agg #[.bool neg, .int .u64 Q, .int .u64 0, .int .u64 0, .int .u64 P]] W fun e w' => e = .returned (.bool (decide (i - j ≤ 52))) ∧ Below W.heap.size W w') (w : World) (hT : Tabs w) :
    Calls Tryd.prog 15 #[.int .i64 a, .int .i64 b, .bool neg] w fun e w' => e = .returned (.bool true) ∧ Below w.heap.size w w' := by
  have hr0 : 0 ≤ i % 64 := by omega
  have hr1 : i % 64 < 64 := by omega
  have hr2 : 0 ≤ j % 64 := by omega
  have hr3 : j % 64 < 64 := by omega
  have HOX := Lib.hid ho; clear ho
  have HPX := Lib.hid hP; clear hP
  have HSX := Lib.hid hS; clear hS
  have K1X := Lib.hid k1; clear k1
  have K2X := Lib.hid k2; clear k2
  have HTX := Lib.hid hT; clear hT
  go_enter Tryd.func15, Tryd.ntmps15
  go_upto_if 21 with (fail)
  go_cut [7, 8] (fun s7 s8 wx => s7 = .int .i64 i ∧ s8 = .int .i64 j ∧ wx = w)
  case first =>
    rcases HOX.out with ⟨hlt, rfl, rfl⟩ | ⟨hlt, rfl, rfl⟩
    all_goals
      clear HOX
      go_wp2
      go_meet
      (refine ⟨?_, ?_, rfl⟩ <;> first | rfl | rw [hi] | rw [hj])
  case rest =>
    obtain ⟨rfl, rfl, rfl⟩ := hcut
    clear hi hj
    go_wp2_with fail
    rw [HPX.out]
    refine (K1X.out _ (tb_on HTX.out.2 (by repeat (first | (with_reducible exact Below.refl _ _) | (with_reducible refine bal ?_ _) | (with_reducible refine Below.drew ?_) | (with_reducible refine bdn ?_ _))))).mono ?_
    rintro e wc1 ⟨rfl, hb⟩
    have BW1 : Below wc.heap.size wc wc1 := btr (by repeat (first | (with_reducible exact Below.refl _ _) | (with_reducible refine bal ?_ _) | (with_reducible refine Below.drew ?_) | (with_reducible refine bdn ?_ _))) hb
    have N1 : Row4 wc1 wc.heap.size (.int .u64 0) (.int .u64 0) (.int .u64 0) (.int .u64 P) := Row4.keep hb (by repeat (first | (with_reducible exact Row4.new _ _ _ _ _) | ((with_reducible refine Row4.new' _ ?_ _ _ _ _); (simp; done)) | (with_reducible refine Row4.alloc ?_ _) | (with_reducible refine Row4.drew ?_)))
    clear hb
    obtain ⟨Nc0, Nc1, Nc2, Nc3⟩ := N1.four
    obtain ⟨Nf0, Nf1, Nf2, Nf3⟩ := N1.free4
    have ltN := N1.lt
    go_upto_region 8 with (fail)
    rw [HSX.out]
    go_name_world wc2 hw
    have BW2 : Below wc.heap.size wc wc2 := by rw [← hw]; exact bsc BW1 (by simp) _
    have N2 : Row4 wc2 wc.heap.size (.int .u64 Q) (.int .u64 0) (.int .u64 0) (.int .u64 P) := by
      rw [← hw]
      have h := N1
      unfold Row4 at h ⊢
      have := heap_setCell_same _ wc.heap.size 0 _ _ (.int .u64 Q) h
      simpa using this
    clear N1 BW1 hw
    go_wp2_with fail
    refine (told2_true _ (tabs_on HTX.out (by repeat (first | (with_reducible exact BW2) | (with_reducible refine bal ?_ _) | (with_reducible refine Below.drew ?_) | (with_reducible refine bdn ?_ _))))).mono ?_
    rintro e wc3 ⟨rfl, hb⟩
    have BW3 : Below wc.heap.size wc wc3 := btr (by repeat (first | (with_reducible exact BW2) | (with_reducible refine bal ?_ _) | (with_reducible refine Below.drew ?_) | (with_reducible refine bdn ?_ _))) hb
    have N3 : Row4 wc3 wc.heap.size (.int .u64 Q) (.int .u64 0) (.int .u64 0) (.int .u64 P) := Row4.keep hb (by repeat (first | (with_reducible exact N2) | (with_reducible refine Row4.alloc ?_ _) | (with_reducible refine Row4.drew ?_)))
    clear N2
    clear BW2
    clear hb
    obtain ⟨Nc0, Nc1, Nc2, Nc3⟩ := N3.four
    obtain ⟨Nf0, Nf1, Nf2, Nf3⟩ := N3.free4
    go_wp2_with fail
    refine (K2X.out _ (tb_on HTX.out.2 (by repeat (first | (with_reducible exact BW3) | (with_reducible refine bal ?_ _) | (with_reducible refine Below.drew ?_) | (with_reducible refine bdn ?_ _))))).mono ?_
    rintro e wc4 ⟨rfl, hb⟩
    have BW4 : Below wc.heap.size wc wc4 := btr (by repeat (first | (with_reducible exact BW3) | (with_reducible refine bal ?_ _) | (with_reducible refine Below.drew ?_) | (with_reducible refine bdn ?_ _))) hb
    have N4 : Row4 wc4 wc.heap.size (.int .u64 Q) (.int .u64 0) (.int .u64 0) (.int .u64 P) := Row4.keep hb (by repeat (first | (with_reducible exact N3) | (with_reducible refine Row4.alloc ?_ _) | (with_reducible refine Row4.drew ?_)))
    clear N3
    clear BW3
    clear hb
    go_wp2
    go_ret
    exact ⟨rfl, BW4⟩

set_option maxHeartbeats 1000000 in
set_option maxRecDepth 100000 in
theorem pow_31 (a b i0 j0 i j P Q : Int) (neg : Bool) (hi : wrap64 ((IntKind.u64.wrap a).tmod 256) = i0) (hj : wrap64 ((IntKind.u64.wrap b).tmod 256) = j0) (ho : (j0 ≤ i0 ∧ i0 = i ∧ j0 = j) ∨ (i0 < j0 ∧ i0 = j ∧ j0 = i))
    (h0 : 0 ≤ j) (h1 : j ≤ i) (h2 : i ≤ 255) (hqi : i / 64 = 3) (hqj : j / 64 = 1)
    (hP : bits .or .u64 0 (IntKind.u64.wrap (2 ^ (i % 64).toNat)) = P) (hS : bits .or .u64 0 (IntKind.u64.wrap (2 ^ (j % 64).toNat)) = Q)
    (k1 : ∀ W, Tb W → Calls Tryd.prog 71 #[.agg #[.bool neg, .int .u64 0, .int .u64 0, .int .u64 0, .int .u64 P]] W fun e w' => e = .returned (.bool true) ∧ Below W.heap.size W w')
    (k2 : ∀ W, Tb W → Calls Tryd.prog 71 #[.agg #[.bool neg, .int .u64 0, .int .u64 Q, .int .u64 0, .int .u64 P]] W fun e w' => e = .returned (.bool (decide (i - j ≤ 52))) ∧ Below W.heap.size W w') (w : World) (hT : Tabs w) :
    Calls Tryd.prog 15 #[.int .i64 a, .int .i64 b, .bool neg] w fun e w' => e = .returned (.bool true) ∧ Below w.heap.size w w' := by
  have hr0 : 0 ≤ i % 64 := by omega
  have hr1 : i % 64 < 64 := by omega
  have hr2 : 0 ≤ j % 64 := by omega
  have hr3 : j % 64 < 64 := by omega
  have HOX := Lib.hid ho; clear ho
  have HPX := Lib.hid hP; clear hP
  have HSX := Lib.hid hS; clear hS
  have K1X := Lib.hid k1; clear k1
  have K2X := Lib.hid k2; clear k2
  have HTX := Lib.hid hT; clear hT
  go_enter Tryd.func15, Tryd.ntmps15
  go_upto_if 21 with (fail)
  go_cut [7, 8] (fun s7 s8 wx => s7 = .int .i64 i ∧ s8 = .int .i64 j ∧ wx = w)
  case first =>
    rcases HOX.out with ⟨hlt, rfl, rfl⟩ | ⟨hlt, rfl, rfl⟩
    all_goals
      clear HOX
      go_wp2
      go_meet
      (refine ⟨?_, ?_, rfl⟩ <;> first | rfl | rw [hi] | rw [hj])
  case rest =>
    obtain ⟨rfl, rfl, rfl⟩ := hcut
    clear hi hj
    go_wp2_with fail
    rw [HPX.out]
    refine (K1X.out _ (tb_on HTX.out.2 (by repeat (first | (with_reducible exact Below.refl _ _) | (with_reducible refine bal ?_ _) | (with_reducible refine Below.drew ?_) | (with_reducible refine bdn ?_ _))))).mono ?_
    rintro e wc1 ⟨rfl, hb⟩
    have BW1 : Below wc.heap.size wc wc1 := btr (by repeat (first | (with_reducible exact Below.refl _ _) | (with_reducible refine bal ?_ _) | (with_reducible refine Below.drew ?_) | (with_reducible refine bdn ?_ _))) hb
    have N1 : Row4 wc1 wc.heap.size (.int .u64 0) (.int .u64 0) (.int .u64 0) (.int .u64 P) := Row4.keep hb (by repeat (first | (with_reducible exact Row4.new _ _ _ _ _) | ((with_reducible refine Row4.new' _ ?_ _ _ _ _); (simp; done)) | (with_reducible refine Row4.alloc ?_ _) | (with_reducible refine Row4.drew ?_)))
    clear hb
    obtain ⟨Nc0, Nc1, Nc2, Nc3⟩ := N1.four
    obtain ⟨Nf0, Nf1, Nf2, Nf3⟩ := N1.free4
    have ltN := N1.lt
    go_upto_region 8 with (fail)
    rw [HSX.out]
    go_name_world wc2 hw
    have BW2 : Below wc.heap.size wc wc2 := by rw [← hw]; exact bsc BW1 (by simp) _
    have N2 : Row4 wc2 wc.heap.size (.int .u64 0) (.int .u64 Q) (.int .u64 0) (.int .u64 P) := by
      rw [← hw]
      have h := N1
      unfold Row4 at h ⊢
      have := heap_setCell_same _ wc.heap.size 1 _ _ (.int .u64 Q) h
      simpa using this
    clear N1 BW1 hw
    go_wp2_with fail
    refine (told2_true _ (tabs_on HTX.out (by repeat (first | (with_reducible exact BW2) | (with_reducible refine bal ?_ _) | (with_reducible refine Below.drew ?_) | (with_reducible refine bdn ?_ _))))).mono ?_
    rintro e wc3 ⟨rfl, hb⟩
    have BW3 : Below wc.heap.size wc wc3 := btr (by repeat (first | (with_reducible exact BW2) | (with_reducible refine bal ?_ _) | (with_reducible refine Below.drew ?_) | (with_reducible refine bdn ?_ _))) hb
    have N3 : Row4 wc3 wc.heap.size (.int .u64 0) (.int .u64 Q) (.int .u64 0) (.int .u64 P) := Row4.keep hb (by repeat (first | (with_reducible exact N2) | (with_reducible refine Row4.alloc ?_ _) | (with_reducible refine Row4.drew ?_)))
    clear N2
    clear BW2
    clear hb
    obtain ⟨Nc0, Nc1, Nc2, Nc3⟩ := N3.four
    obtain ⟨Nf0, Nf1, Nf2, Nf3⟩ := N3.free4
    go_wp2_with fail
    refine (K2X.out _ (tb_on HTX.out.2 (by repeat (first | (with_reducible exact BW3) | (with_reducible refine bal ?_ _) | (with_reducible refine Below.drew ?_) | (with_reducible refine bdn ?_ _))))).mono ?_
    rintro e wc4 ⟨rfl, hb⟩
    have BW4 : Below wc.heap.size wc wc4 := btr (by repeat (first | (with_reducible exact BW3) | (with_reducible refine bal ?_ _) | (with_reducible refine Below.drew ?_) | (with_reducible refine bdn ?_ _))) hb
    have N4 : Row4 wc4 wc.heap.size (.int .u64 0) (.int .u64 Q) (.int .u64 0) (.int .u64 P) := Row4.keep hb (by repeat (first | (with_reducible exact N3) | (with_reducible refine Row4.alloc ?_ _) | (with_reducible refine Row4.drew ?_)))
    clear N3
    clear BW3
    clear hb
    go_wp2
    go_ret
    exact ⟨rfl, BW4⟩

set_option maxHeartbeats 1000000 in
set_option maxRecDepth 100000 in
theorem pow_32 (a b i0 j0 i j P Q : Int) (neg : Bool) (hi : wrap64 ((IntKind.u64.wrap a).tmod 256) = i0) (hj : wrap64 ((IntKind.u64.wrap b).tmod 256) = j0) (ho : (j0 ≤ i0 ∧ i0 = i ∧ j0 = j) ∨ (i0 < j0 ∧ i0 = j ∧ j0 = i))
    (h0 : 0 ≤ j) (h1 : j ≤ i) (h2 : i ≤ 255) (hqi : i / 64 = 3) (hqj : j / 64 = 2)
    (hP : bits .or .u64 0 (IntKind.u64.wrap (2 ^ (i % 64).toNat)) = P) (hS : bits .or .u64 0 (IntKind.u64.wrap (2 ^ (j % 64).toNat)) = Q)
    (k1 : ∀ W, Tb W → Calls Tryd.prog 71 #[.agg #[.bool neg, .int .u64 0, .int .u64 0, .int .u64 0, .int .u64 P]] W fun e w' => e = .returned (.bool true) ∧ Below W.heap.size W w')
    (k2 : ∀ W, Tb W → Calls Tryd.prog 71 #[.agg #[.bool neg, .int .u64 0, .int .u64 0, .int .u64 Q, .int .u64 P]] W fun e w' => e = .returned (.bool (decide (i - j ≤ 52))) ∧ Below W.heap.size W w') (w : World) (hT : Tabs w) :
    Calls Tryd.prog 15 #[.int .i64 a, .int .i64 b, .bool neg] w fun e w' => e = .returned (.bool true) ∧ Below w.heap.size w w' := by
  have hr0 : 0 ≤ i % 64 := by omega
  have hr1 : i % 64 < 64 := by omega
  have hr2 : 0 ≤ j % 64 := by omega
  have hr3 : j % 64 < 64 := by omega
  have HOX := Lib.hid ho; clear ho
  have HPX := Lib.hid hP; clear hP
  have HSX := Lib.hid hS; clear hS
  have K1X := Lib.hid k1; clear k1
  have K2X := Lib.hid k2; clear k2
  have HTX := Lib.hid hT; clear hT
  go_enter Tryd.func15, Tryd.ntmps15
  go_upto_if 21 with (fail)
  go_cut [7, 8] (fun s7 s8 wx => s7 = .int .i64 i ∧ s8 = .int .i64 j ∧ wx = w)
  case first =>
    rcases HOX.out with ⟨hlt, rfl, rfl⟩ | ⟨hlt, rfl, rfl⟩
    all_goals
      clear HOX
      go_wp2
      go_meet
      (refine ⟨?_, ?_, rfl⟩ <;> first | rfl | rw [hi] | rw [hj])
  case rest =>
    obtain ⟨rfl, rfl, rfl⟩ := hcut
    clear hi hj
    go_wp2_with fail
    rw [HPX.out]
    refine (K1X.out _ (tb_on HTX.out.2 (by repeat (first | (with_reducible exact Below.refl _ _) | (with_reducible refine bal ?_ _) | (with_reducible refine Below.drew ?_) | (with_reducible refine bdn ?_ _))))).mono ?_
    rintro e wc1 ⟨rfl, hb⟩
    have BW1 : Below wc.heap.size wc wc1 := btr (by repeat (first | (with_reducible exact Below.refl _ _) | (with_reducible refine bal ?_ _) | (with_reducible refine Below.drew ?_) | (with_reducible refine bdn ?_ _))) hb
    have N1 : Row4 wc1 wc.heap.size (.int .u64 0) (.int .u64 0) (.int .u64 0) (.int .u64 P) := Row4.keep hb (by repeat (first | (with_reducible exact Row4.new _ _ _ _ _) | ((with_reducible refine Row4.new' _ ?_ _ _ _ _); (simp; done)) | (with_reducible refine Row4.alloc ?_ _) | (with_reducible refine Row4.drew ?_)))
    clear hb
    obtain ⟨Nc0, Nc1, Nc2, Nc3⟩ := N1.four
    obtain ⟨Nf0, Nf1, Nf2, Nf3⟩ := N1.free4
    have ltN := N1.lt
    go_upto_region 8 with (fail)
    rw [HSX.out]
    go_name_world wc2 hw
    have BW2 : Below wc.heap.size wc wc2 := by rw [← hw]; exact bsc BW1 (by simp) _
    have N2 : Row4 wc2 wc.heap.size (.int .u64 0) (.int .u64 0) (.int .u64 Q) (.int .u64 P) := by
      rw [← hw]
      have h := N1
      unfold Row4 at h ⊢
      have := heap_setCell_same _ wc.heap.size 2 _ _ (.int .u64 Q) h
      simpa using this
    clear N1 BW1 hw
    go_wp2_with fail
    refine (told2_true _ (tabs_on HTX.out (by repeat (first | (with_reducible exact BW2) | (with_reducible refine bal ?_ _) | (with_reducible refine Below.drew ?_) | (with_reducible refine bdn ?_ _))))).mono ?_
    rintro e wc3 ⟨rfl, hb⟩
    have BW3 : Below wc.heap.size wc wc3 := btr (by repeat (first | (with_reducible exact BW2) | (with_reducible refine bal ?_ _) | (with_reducible refine Below.drew ?_) | (with_reducible refine bdn ?_ _))) hb
    have N3 : Row4 wc3 wc.heap.size (.int .u64 0) (.int .u64 0) (.int .u64 Q) (.int .u64 P) := Row4.keep hb (by repeat (first | (with_reducible exact N2) | (with_reducible refine Row4.alloc ?_ _) | (with_reducible refine Row4.drew ?_)))
    clear N2
    clear BW2
    clear hb
    obtain ⟨Nc0, Nc1, Nc2, Nc3⟩ := N3.four
    obtain ⟨Nf0, Nf1, Nf2, Nf3⟩ := N3.free4
    go_wp2_with fail
    refine (K2X.out _ (tb_on HTX.out.2 (by repeat (first | (with_reducible exact BW3) | (with_reducible refine bal ?_ _) | (with_reducible refine Below.drew ?_) | (with_reducible refine bdn ?_ _))))).mono ?_
    rintro e wc4 ⟨rfl, hb⟩
    have BW4 : Below wc.heap.size wc wc4 := btr (by repeat (first | (with_reducible exact BW3) | (with_reducible refine bal ?_ _) | (with_reducible refine Below.drew ?_) | (with_reducible refine bdn ?_ _))) hb
    have N4 : Row4 wc4 wc.heap.size (.int .u64 0) (.int .u64 0) (.int .u64 Q) (.int .u64 P) := Row4.keep hb (by repeat (first | (with_reducible exact N3) | (with_reducible refine Row4.alloc ?_ _) | (with_reducible refine Row4.drew ?_)))
    clear N3
    clear BW3
    clear hb
    go_wp2
    go_ret
    exact ⟨rfl, BW4⟩

set_option maxHeartbeats 1000000 in
set_option maxRecDepth 100000 in
theorem pow_33 (a b i0 j0 i j P S : Int) (neg : Bool) (hi : wrap64 ((IntKind.u64.wrap a).tmod 256) = i0) (hj : wrap64 ((IntKind.u64.wrap b).tmod 256) = j0) (ho : (j0 ≤ i0 ∧ i0 = i ∧ j0 = j) ∨ (i0 < j0 ∧ i0 = j ∧ j0 = i))
    (h0 : 0 ≤ j) (h1 : j ≤ i) (h2 : i ≤ 255) (hqi : i / 64 = 3) (hqj : j / 64 = 3)
    (hP : bits .or .u64 0 (IntKind.u64.wrap (2 ^ (i % 64).toNat)) = P) (hS : bits .or .u64 P (IntKind.u64.wrap (2 ^ (j % 64).toNat)) = S)
    (k1 : ∀ W, Tb W → Calls Tryd.prog 71 #[.agg #[.bool neg, .int .u64 0, .int .u64 0, .int .u64 0, .int .u64 P]] W fun e w' => e = .returned (.bool true) ∧ Below W.heap.size W w')
    (k2 : ∀ W, Tb W → Calls Tryd.prog 71 #[.agg #[.bool neg, .int .u64 0, .int .u64 0, .int .u64 0, .int .u64 S]] W fun e w' => e = .returned (.bool (decide (i - j ≤ 52))) ∧ Below W.heap.size W w') (w : World) (hT : Tabs w) :
    Calls Tryd.prog 15 #[.int .i64 a, .int .i64 b, .bool neg] w fun e w' => e = .returned (.bool true) ∧ Below w.heap.size w w' := by
  have hr0 : 0 ≤ i % 64 := by omega
  have hr1 : i % 64 < 64 := by omega
  have hr2 : 0 ≤ j % 64 := by omega
  have hr3 : j % 64 < 64 := by omega
  have HOX := Lib.hid ho; clear ho
  have HPX := Lib.hid hP; clear hP
  have HSX := Lib.hid hS; clear hS
  have K1X := Lib.hid k1; clear k1
  have K2X := Lib.hid k2; clear k2
  have HTX := Lib.hid hT; clear hT
  go_enter Tryd.func15, Tryd.ntmps15
  go_upto_if 21 with (fail)
  go_cut [7, 8] (fun s7 s8 wx => s7 = .int .i64 i ∧ s8 = .int .i64 j ∧ wx = w)
  case first =>
    rcases HOX.out with ⟨hlt, rfl, rfl⟩ | ⟨hlt, rfl, rfl⟩
    all_goals
      clear HOX
      go_wp2
      go_meet
      (refine ⟨?_, ?_, rfl⟩ <;> first | rfl | rw [hi] | rw [hj])
  case rest =>
    obtain ⟨rfl, rfl, rfl⟩ := hcut
    clear hi hj
    go_wp2_with fail
    rw [HPX.out]
    refine (K1X.out _ (tb_on HTX.out.2 (by repeat (first | (with_reducible exact Below.refl _ _) | (with_reducible refine bal ?_ _) | (with_reducible refine Below.drew ?_) | (with_reducible refine bdn ?_ _))))).mono ?_
    rintro e wc1 ⟨rfl, hb⟩
    have BW1 : Below wc.heap.size wc wc1 := btr (by repeat (first | (with_reducible exact Below.refl _ _) | (with_reducible refine bal ?_ _) | (with_reducible refine Below.drew ?_) | (with_reducible refine bdn ?_ _))) hb
    have N1 : Row4 wc1 wc.heap.size (.int .u64 0) (.int .u64 0) (.int .u64 0) (.int .u64 P) := Row4.keep hb (by repeat (first | (with_reducible exact Row4.new _ _ _ _ _) | ((with_reducible refine Row4.new' _ ?_ _ _ _ _); (simp; done)) | (with_reducible refine Row4.alloc ?_ _) | (with_reducible refine Row4.drew ?_)))
    clear hb
    obtain ⟨Nc0, Nc1, Nc2, Nc3⟩ := N1.four
    obtain ⟨Nf0, Nf1, Nf2, Nf3⟩ := N1.free4
    have ltN := N1.lt
    go_upto_region 8 with (fail)
    rw [HSX.out]
    go_name_world wc2 hw
    have BW2 : Below wc.heap.size wc wc2 := by rw [← hw]; exact bsc BW1 (by simp) _
    have N2 : Row4 wc2 wc.heap.size (.int .u64 0) (.int .u64 0) (.int .u64 0) (.int .u64 S) := by
      rw [← hw]
      have h := N1
      unfold Row4 at h ⊢
      have := heap_setCell_same _ wc.heap.size 3 _ _ (.int .u64 S) h
      simpa using this
    clear N1 BW1 hw
    go_wp2_with fail
    refine (told2_true _ (tabs_on HTX.out (by repeat (first | (with_reducible exact BW2) | (with_reducible refine bal ?_ _) | (with_reducible refine Below.drew ?_) | (with_reducible refine bdn ?_ _))))).mono ?_
    rintro e wc3 ⟨rfl, hb⟩
    have BW3 : Below wc.heap.size wc wc3 := btr (by repeat (first | (with_reducible exact BW2) | (with_reducible refine bal ?_ _) | (with_reducible refine Below.drew ?_) | (with_reducible refine bdn ?_ _))) hb
    have N3 : Row4 wc3 wc.heap.size (.int .u64 0) (.int .u64 0) (.int .u64 0) (.int .u64 S) := Row4.keep hb (by repeat (first | (with_reducible exact N2) | (with_reducible refine Row4.alloc ?_ _) | (with_reducible refine Row4.drew ?_)))
    clear N2
    clear BW2
    clear hb
    obtain ⟨Nc0, Nc1, Nc2, Nc3⟩ := N3.four
    obtain ⟨Nf0, Nf1, Nf2, Nf3⟩ := N3.free4
    go_wp2_with fail
    refine (K2X.out _ (tb_on HTX.out.2 (by repeat (first | (with_reducible exact BW3) | (with_reducible refine bal ?_ _) | (with_reducible refine Below.drew ?_) | (with_reducible refine bdn ?_ _))))).mono ?_
    rintro e wc4 ⟨rfl, hb⟩
    have BW4 : Below wc.heap.size wc wc4 := btr (by repeat (first | (with_reducible exact BW3) | (with_reducible refine bal ?_ _) | (with_reducible refine Below.drew ?_) | (with_reducible refine bdn ?_ _))) hb
    have N4 : Row4 wc4 wc.heap.size (.int .u64 0) (.int .u64 0) (.int .u64 0) (.int .u64 S) := Row4.keep hb (by repeat (first | (with_reducible exact N3) | (with_reducible refine Row4.alloc ?_ _) | (with_reducible refine Row4.drew ?_)))
    clear N3
    clear BW3
    clear hb
    go_wp2
    go_ret
    exact ⟨rfl, BW4⟩

end Go.Proofs.YtbegblkfdnaloaaDoor
