/-
  RefWh RefBehind RefFWhole RefClass, one behind the other: a claim holds at most 60 files.
-/
import Derived.Test.YtocffoemimghhaaGreatDoorGC
import Derived.Test.YtocffoemimghhaaGreatDoorGE
import Derived.BigRegion
import Derived.RegionTactic
import Derived.Test.YtocffoemimghhaaGreatDoorGF
section
namespace Go.Proofs.YtocffoemimghhaaGreatDoor
open Go.RowKit Go.Shelf
attribute [local go_sem ↓] eql_nat neq_nat eql_int5 neq_int5

set_option maxHeartbeats 1000000 in
set_option maxRecDepth 100000 in
theorem rwh_false (s : Value) (x0 x1 x2 x3 : Int) (w : World)
    (k1 : ∀ W, Below w.heap.size w W → Calls Tryz.prog 177 #[s] W fun e w' => e = .returned (.tuple #[.agg #[.int .u64 x0, .int .u64 x1, .int .u64 x2, .int .u64 x3], .bool true]) ∧ Below W.heap.size W w') :
    Calls Tryz.prog 150 #[.bool false, s] w fun e w' => e = .returned (.tuple #[.agg #[.bool false, .int .u64 x0, .int .u64 x1, .int .u64 x2, .int .u64 x3], .bool true]) ∧ Below w.heap.size w w' := by
  have K1 := Lib.hid k1; clear k1
  go_enter Tryz.func150, Tryz.ntmps150
  go_wp2_with fail
  refine (K1.out _ (by repeat (first | (with_reducible exact Below.refl _ _) | (with_reducible refine bal ?_ _) | (with_reducible refine Below.drew ?_) | (with_reducible refine bdn ?_ _)))).mono ?_
  rintro e w1 ⟨rfl, hb⟩
  have BW1 : Below w.heap.size w w1 := btr (by repeat (first | (with_reducible exact Below.refl _ _) | (with_reducible refine bal ?_ _) | (with_reducible refine Below.drew ?_) | (with_reducible refine bdn ?_ _))) hb
  have R1 : Row5 w1 w.heap.size (.bool false) (.int .u64 0) (.int .u64 0) (.int .u64 0) (.int .u64 0) := Row5.keep hb (by repeat (first | (with_reducible exact Row5.new _ _ _ _ _ _) | ((with_reducible refine Row5.new' _ ?_ _ _ _ _ _); (simp; done)) | (with_reducible refine Row5.alloc ?_ _) | (with_reducible refine Row5.drew ?_)))
  clear hb
  go_upto_region 4 with (fail)
  go_name_world w2 hw2
  have BW2 : Below w.heap.size w w2 := by rw [← hw2]; repeat (first | (with_reducible exact BW1) | (with_reducible refine bal ?_ _) | (with_reducible refine Below.drew ?_) | (with_reducible refine bdn ?_ _))
  have R2 : Row5 w2 w.heap.size (.bool false) (.int .u64 0) (.int .u64 0) (.int .u64 0) (.int .u64 0) := by rw [← hw2]; exact (by repeat (first | (with_reducible exact R1) | (with_reducible refine Row5.alloc ?_ _) | (with_reducible refine Row5.drew ?_)))
  have apN_R := R1.lt
  have apN_0 := (BW1).size
  have N2 : Row4 w2 w1.heap.size (.int .u64 x0) (.int .u64 x1) (.int .u64 x2) (.int .u64 x3) := by rw [← hw2]; exact (by repeat (first | (with_reducible exact Row4.new _ _ _ _ _) | ((with_reducible refine Row4.new' _ ?_ _ _ _ _); (simp; done)) | (with_reducible refine Row4.alloc ?_ _) | (with_reducible refine Row4.drew ?_)))
  clear R1
  clear BW1
  clear hw2
  obtain ⟨Rc0, Rc1, Rc2, Rc3, Rc4⟩ := R2.parts
  obtain ⟨Rf0, Rf1, Rf2, Rf3, Rf4⟩ := R2.free
  obtain ⟨Nc0, Nc1, Nc2, Nc3⟩ := N2.four
  obtain ⟨Nf0, Nf1, Nf2, Nf3⟩ := N2.free4
  have lt_R := R2.lt
  have lt_N := N2.lt
  have neRN : ¬ w1.heap.size = w.heap.size := by omega
  have neNR : ¬ w.heap.size = w1.heap.size := by omega
  go_region
  all_goals go_wp2
  all_goals exact bodyPost_ret (v := .tuple #[.agg #[.bool false, .int .u64 x0, .int .u64 x1, .int .u64 x2, .int .u64 x3], .bool true]) (by simp [results, Tryz.results150, go_sem, Rc0, Rc1, Rc2, Rc3, Rc4]) rfl ⟨rfl, by repeat (first | (with_reducible exact BW2) | (with_reducible refine bal ?_ _) | (with_reducible refine Below.drew ?_) | (with_reducible refine bdn ?_ _) | ((with_reducible refine bsc ?_ ?_ _); rotate_left; (focus (simp only []; omega))))⟩
set_option maxHeartbeats 1000000 in
set_option maxRecDepth 100000 in
theorem rwh_true (s : Value) (x0 x1 x2 x3 : Int) (w : World)
    (k1 : ∀ W, Below w.heap.size w W → Calls Tryz.prog 177 #[s] W fun e w' => e = .returned (.tuple #[.agg #[.int .u64 x0, .int .u64 x1, .int .u64 x2, .int .u64 x3], .bool true]) ∧ Below W.heap.size W w') :
    Calls Tryz.prog 150 #[.bool true, s] w fun e w' => e = .returned (.tuple #[.agg #[.bool (!eq4 x0 x1 x2 x3 0 0 0 0), .int .u64 x0, .int .u64 x1, .int .u64 x2, .int .u64 x3], .bool true]) ∧ Below w.heap.size w w' := by
  have K1 := Lib.hid k1; clear k1
  go_enter Tryz.func150, Tryz.ntmps150
  go_wp2_with fail
  refine (K1.out _ (by repeat (first | (with_reducible exact Below.refl _ _) | (with_reducible refine bal ?_ _) | (with_reducible refine Below.drew ?_) | (with_reducible refine bdn ?_ _)))).mono ?_
  rintro e w1 ⟨rfl, hb⟩
  have BW1 : Below w.heap.size w w1 := btr (by repeat (first | (with_reducible exact Below.refl _ _) | (with_reducible refine bal ?_ _) | (with_reducible refine Below.drew ?_) | (with_reducible refine bdn ?_ _))) hb
  have R1 : Row5 w1 w.heap.size (.bool false) (.int .u64 0) (.int .u64 0) (.int .u64 0) (.int .u64 0) := Row5.keep hb (by repeat (first | (with_reducible exact Row5.new _ _ _ _ _ _) | ((with_reducible refine Row5.new' _ ?_ _ _ _ _ _); (simp; done)) | (with_reducible refine Row5.alloc ?_ _) | (with_reducible refine Row5.drew ?_)))
  clear hb
  go_upto_region 4 with (fail)
  go_name_world w2 hw2
  have BW2 : Below w.heap.size w w2 := by rw [← hw2]; repeat (first | (with_reducible exact BW1) | (with_reducible refine bal ?_ _) | (with_reducible refine Below.drew ?_) | (with_reducible refine bdn ?_ _))
  have R2 : Row5 w2 w.heap.size (.bool false) (.int .u64 0) (.int .u64 0) (.int .u64 0) (.int .u64 0) := by rw [← hw2]; exact (by repeat (first | (with_reducible exact R1) | (with_reducible refine Row5.alloc ?_ _) | (with_reducible refine Row5.drew ?_)))
  have apN_R := R1.lt
  have apN_0 := (BW1).size
  have N2 : Row4 w2 w1.heap.size (.int .u64 x0) (.int .u64 x1) (.int .u64 x2) (.int .u64 x3) := by rw [← hw2]; exact (by repeat (first | (with_reducible exact Row4.new _ _ _ _ _) | ((with_reducible refine Row4.new' _ ?_ _ _ _ _); (simp; done)) | (with_reducible refine Row4.alloc ?_ _) | (with_reducible refine Row4.drew ?_)))
  clear R1
  clear BW1
  clear hw2
  obtain ⟨Rc0, Rc1, Rc2, Rc3, Rc4⟩ := R2.parts
  obtain ⟨Rf0, Rf1, Rf2, Rf3, Rf4⟩ := R2.free
  obtain ⟨Nc0, Nc1, Nc2, Nc3⟩ := N2.four
  obtain ⟨Nf0, Nf1, Nf2, Nf3⟩ := N2.free4
  have lt_R := R2.lt
  have lt_N := N2.lt
  have neRN : ¬ w1.heap.size = w.heap.size := by omega
  have neNR : ¬ w.heap.size = w1.heap.size := by omega
  go_region
  all_goals go_wp2
  all_goals exact bodyPost_ret (v := .tuple #[.agg #[.bool (!eq4 x0 x1 x2 x3 0 0 0 0), .int .u64 x0, .int .u64 x1, .int .u64 x2, .int .u64 x3], .bool true]) (by simp [results, Tryz.results150, go_sem, Rc0, Rc1, Rc2, Rc3, Rc4]) rfl ⟨rfl, by repeat (first | (with_reducible exact BW2) | (with_reducible refine bal ?_ _) | (with_reducible refine Below.drew ?_) | (with_reducible refine bdn ?_ _) | ((with_reducible refine bsc ?_ ?_ _); rotate_left; (focus (simp only []; omega))))⟩
set_option maxHeartbeats 1000000 in
set_option maxRecDepth 100000 in
theorem rwh_none (g : Bool) (s : Value) (x0 x1 x2 x3 : Int) (w : World)
    (k1 : ∀ W, Below w.heap.size w W → Calls Tryz.prog 177 #[s] W fun e w' => e = .returned (.tuple #[.agg #[.int .u64 x0, .int .u64 x1, .int .u64 x2, .int .u64 x3], .bool false]) ∧ Below W.heap.size W w') :
    Calls Tryz.prog 150 #[.bool g, s] w fun e w' => e = .returned (.tuple #[.agg #[.bool false, .int .u64 0, .int .u64 0, .int .u64 0, .int .u64 0], .bool false]) ∧ Below w.heap.size w w' := by
  have K1 := Lib.hid k1; clear k1
  go_enter Tryz.func150, Tryz.ntmps150
  go_wp2_with fail
  refine (K1.out _ (by repeat (first | (with_reducible exact Below.refl _ _) | (with_reducible refine bal ?_ _) | (with_reducible refine Below.drew ?_) | (with_reducible refine bdn ?_ _)))).mono ?_
  rintro e w1 ⟨rfl, hb⟩
  have BW1 : Below w.heap.size w w1 := btr (by repeat (first | (with_reducible exact Below.refl _ _) | (with_reducible refine bal ?_ _) | (with_reducible refine Below.drew ?_) | (with_reducible refine bdn ?_ _))) hb
  have R1 : Row5 w1 w.heap.size (.bool false) (.int .u64 0) (.int .u64 0) (.int .u64 0) (.int .u64 0) := Row5.keep hb (by repeat (first | (with_reducible exact Row5.new _ _ _ _ _ _) | ((with_reducible refine Row5.new' _ ?_ _ _ _ _ _); (simp; done)) | (with_reducible refine Row5.alloc ?_ _) | (with_reducible refine Row5.drew ?_)))
  clear hb
  go_upto_region 3 with (fail)
  go_name_world w2 hw2
  have BW2 : Below w.heap.size w w2 := by rw [← hw2]; repeat (first | (with_reducible exact BW1) | (with_reducible refine bal ?_ _) | (with_reducible refine Below.drew ?_) | (with_reducible refine bdn ?_ _))
  have R2 : Row5 w2 w.heap.size (.bool false) (.int .u64 0) (.int .u64 0) (.int .u64 0) (.int .u64 0) := by rw [← hw2]; exact (by repeat (first | (with_reducible exact R1) | (with_reducible refine Row5.alloc ?_ _) | (with_reducible refine Row5.drew ?_)))
  have apN_R := R1.lt
  have apN_0 := (BW1).size
  have N2 : Row4 w2 w1.heap.size (.int .u64 x0) (.int .u64 x1) (.int .u64 x2) (.int .u64 x3) := by rw [← hw2]; exact (by repeat (first | (with_reducible exact Row4.new _ _ _ _ _) | ((with_reducible refine Row4.new' _ ?_ _ _ _ _); (simp; done)) | (with_reducible refine Row4.alloc ?_ _) | (with_reducible refine Row4.drew ?_)))
  clear R1
  clear BW1
  clear hw2
  obtain ⟨Rc0, Rc1, Rc2, Rc3, Rc4⟩ := R2.parts
  obtain ⟨Rf0, Rf1, Rf2, Rf3, Rf4⟩ := R2.free
  go_wp2
  all_goals exact bodyPost_ret (v := .tuple #[.agg #[.bool false, .int .u64 0, .int .u64 0, .int .u64 0, .int .u64 0], .bool false]) (by simp [results, Tryz.results150, go_sem, Rc0, Rc1, Rc2, Rc3, Rc4]) rfl ⟨rfl, by repeat (first | (with_reducible exact BW2) | (with_reducible refine bal ?_ _) | (with_reducible refine Below.drew ?_) | (with_reducible refine bdn ?_ _) | ((with_reducible refine bsc ?_ ?_ _); rotate_left; (focus (simp only []; omega))))⟩
theorem Iz_sign (g : Bool) (v : Nat) (hv : v < 2 ^ 256) : I5 (g && !eq4 (lb 0 v) (lb 1 v) (lb 2 v) (lb 3 v) 0 0 0 0) v = Iz (if g then -(v : Int) else v) := by
  cases g
  · rw [Bool.false_and, if_neg (by decide), Iz_nat]
  · rw [Bool.true_and, if_pos rfl, zq v hv]
    by_cases h : v = 0
    · subst h; rfl
    · rw [Iz_neg h, decide_eq_false h]; rfl
/-- What the reference's whole answers. -/
theorem rwh {s : Value} {v : Nat} (g : Bool) {w : World} (h : DR w s v) :
    Calls Tryz.prog 150 #[.bool g, s] w fun e w' => e = .returned (if v < 2 ^ 256 then .tuple #[Iz (if g then -(v : Int) else v), .bool true] else .tuple #[Z5, .bool false]) ∧ Below w.heap.size w w' := by
  have k := fun (W : World) (hW : Below w.heap.size w W) => rnat (h.keep hW)
  by_cases hv : v < 2 ^ 256
  · rw [if_pos hv] at k ⊢
    rw [← Iz_sign g v hv]
    cases g
    · exact rwh_false s _ _ _ _ w k
    · exact rwh_true s _ _ _ _ w k
  · rw [if_neg hv] at k ⊢
    exact rwh_none g s _ _ _ _ w k
end Go.Proofs.YtocffoemimghhaaGreatDoor
end
section
namespace Go.Proofs.YtocffoemimghhaaGreatDoor
open Go.RowKit Go.Shelf
attribute [local go_sem ↓] eql_nat neq_nat eql_int5 neq_int5

set_option maxHeartbeats 1000000 in
set_option maxRecDepth 100000 in
theorem rbehind_inf (b : Nat) (hb : b < 18446744073709551616) (h : ¬ rg b < INF) (w : World) :
    Calls Tryz.prog 73 #[.int .u64 b] w fun e w' => e = .returned (.int .i64 0) ∧ Below w.heap.size w w' := by
  have HP := Lib.hid (fun W => rparts_inf b hb h W); clear hb h
  go_enter Tryz.func73, Tryz.ntmps73
  go_wp2_with fail
  (with_reducible refine (HP.out _).mono ?_)
  rintro e w1 ⟨rfl, hw⟩
  rw [hw]; clear hw w1
  go_wp2
  go_ret
  exact ⟨rfl, Below.refl _ _⟩
theorem dg_len (b : Nat) : (digs (dg b)).length ≤ 1000 := Nat.le_trans (digs_len.2 (show dg b < 2 ^ (32 * 2) from dg_lt b)) (by decide)
set_option maxHeartbeats 1000000 in
set_option maxRecDepth 100000 in
theorem rbehind_zero (b : Nat) (hb : b < 18446744073709551616) (h : rg b < INF) (h0 : dg b = 0) (w : World) :
    Calls Tryz.prog 73 #[.int .u64 b] w fun e w' => e = .returned (.int .i64 0) ∧ Below w.heap.size w w' := by
  have HP := Lib.hid (fun W => rparts_fin b hb h W); clear hb h
  rw [h0] at HP
  generalize ex b = E at HP
  generalize (sg b == 1) = g at HP
  go_enter Tryz.func73, Tryz.ntmps73
  go_wp2_with fail
  (with_reducible refine (HP.out _).mono ?_)
  rintro e w1 ⟨s', rfl, hr, hb⟩
  have hl := rlen hr (by rw [digs_zero]; exact Nat.zero_le _)
  rw [show blen 0 = 0 from rfl] at hl
  have HL := Lib.hid hl; have HB := Lib.hid hb; clear hl hr hb
  go_wp2_with fail
  (with_reducible refine HL.out.mono ?_)
  rintro e w2 ⟨rfl, hw⟩
  rw [hw]; clear hw w2
  go_wp2
  go_ret
  exact ⟨rfl, HB.out⟩
set_option maxHeartbeats 1000000 in
set_option maxRecDepth 100000 in
theorem rbehind_core (b D t m L : Nat) (E : Int) (g : Bool) (hD : D = 2 ^ t * (2 * m + 1)) (hlD : (digs D).length ≤ 1000) (ht : t < 64) (hE0 : -1074 ≤ E) (hE1 : E ≤ 1000) (hL : L = blen D) (hL0 : ((L : Int) == 0) = false) (w : World)
    (hp : ∀ W, Calls Tryz.prog 72 #[.int .u64 b] W fun e w' => ∃ s', e = .returned (.tuple #[.bool g, s', .int .i64 E, .bool true]) ∧ DR w' s' D ∧ Below W.heap.size W w') :
    Calls Tryz.prog 73 #[.int .u64 b] w fun e w' => e = .returned (.int .i64 (max 0 (-E - (t : Int)))) ∧ Below w.heap.size w w' := by
  have HP := Lib.hid hp; have HD := Lib.hid hD; have HLD := Lib.hid hlD; have HLL := Lib.hid hL; clear hp hD hlD hL
  go_enter Tryz.func73, Tryz.ntmps73
  go_wp2_with fail
  (with_reducible refine (HP.out _).mono ?_)
  rintro e w1 ⟨s', rfl, hr, hb⟩
  have hl := rlen hr HLD.out
  rw [← HLL.out] at hl
  have htr := rtrail hr HLD.out HD.out (by omega)
  have HL := Lib.hid hl; have HT := Lib.hid htr; have HB := Lib.hid hb; clear hl htr hr hb
  go_wp2_with fail
  (with_reducible refine HL.out.mono ?_)
  rintro e w2 ⟨rfl, hw⟩
  rw [hw]; clear hw w2
  go_wp2_with fail
  (with_reducible refine HT.out.mono ?_)
  rintro e w2 ⟨rfl, hw⟩
  rw [hw]; clear hw w2
  go_wp2
  go_ret
  exact ⟨rfl, HB.out⟩
theorem ex_bounds (b : Nat) : -1074 ≤ ex b ∧ ex b ≤ 972 := by
  unfold ex
  split <;> omega
theorem pw_ex {b : Nat} (h : dg b ≠ 0) : pw b = ex b + (Lib.ctz 64 (dg b) : Nat) := by
  unfold pw ex
  rw [if_neg h]
  by_cases h0 : b / 4503599627370496 % 2048 = 0
  · rw [if_pos h0, h0]; omega
  · rw [if_neg h0]; omega
theorem rbehind (b : Nat) (hb : b < 18446744073709551616) (w : World) :
    Calls Tryz.prog 73 #[.int .u64 b] w fun e w' => e = .returned (.int .i64 (beh b : Nat)) ∧ Below w.heap.size w w' := by
  have he := ex_bounds b
  by_cases h : rg b < INF
  · by_cases h0 : dg b = 0
    · have e : beh b = 0 := by unfold beh pw; rw [if_pos h, if_pos h0]; rfl
      rw [e]
      exact rbehind_zero b hb h h0 w
    · obtain ⟨m, hm, ht⟩ := ctz_word h0 (dg_lt b)
      have e : ((beh b : Nat) : Int) = max 0 (-(ex b) - (Lib.ctz 64 (dg b) : Nat)) := by
        unfold beh
        rw [if_pos h, pw_ex h0]
        omega
      rw [e]
      exact rbehind_core b (dg b) _ m _ (ex b) (sg b == 1) hm (dg_len b) ht he.1 (by omega) rfl (by have := (blen_spec h0).1; rw [beq_eq_false_iff_ne]; omega) w (fun W => rparts_fin b hb h W)
  · have e : beh b = 0 := by unfold beh; rw [if_neg h]
    rw [e]
    exact rbehind_inf b hb h w
end Go.Proofs.YtocffoemimghhaaGreatDoor
end
section
namespace Go.Proofs.YtocffoemimghhaaGreatDoor
open Go.RowKit Go.Shelf
attribute [local go_sem ↓] eql_nat neq_nat eql_int5 neq_int5

set_option maxHeartbeats 1000000 in
set_option maxRecDepth 100000 in
theorem rwhole_inf (b : Int) (g : Bool) (w : World) (hp : ∀ W, Calls Tryz.prog 72 #[.int .u64 b] W fun e w' => e = .returned (.tuple #[.bool g, .slice none 0 0, .int .i64 0, .bool false]) ∧ w' = W) :
    Calls Tryz.prog 105 #[.int .u64 b] w fun e w' => e = .returned (.tuple #[.agg #[.bool false, .int .u64 0, .int .u64 0, .int .u64 0, .int .u64 0], .bool false]) ∧ Below w.heap.size w w' := by
  have HP := Lib.hid (fun W => calls_below0 (hp W)); clear hp
  go_enter Tryz.func105, Tryz.ntmps105
  go_wp2_with fail
  refine (HP.out _).mono ?_
  rintro e w1 ⟨rfl, hb⟩
  have BW1 : Below w.heap.size w w1 := btr (by repeat (first | (with_reducible exact Below.refl _ _) | (with_reducible refine bal ?_ _) | (with_reducible refine Below.drew ?_) | (with_reducible refine bdn ?_ _))) hb
  have R1 : Row5 w1 w.heap.size (.bool false) (.int .u64 0) (.int .u64 0) (.int .u64 0) (.int .u64 0) := Row5.keep hb (by repeat (first | (with_reducible exact Row5.new _ _ _ _ _ _) | ((with_reducible refine Row5.new' _ ?_ _ _ _ _ _); (simp; done)) | (with_reducible refine Row5.alloc ?_ _) | (with_reducible refine Row5.drew ?_)))
  clear hb
  obtain ⟨Rc0, Rc1, Rc2, Rc3, Rc4⟩ := R1.parts
  obtain ⟨Rf0, Rf1, Rf2, Rf3, Rf4⟩ := R1.free
  go_wp2
  exact bodyPost_ret (v := .tuple #[.agg #[.bool false, .int .u64 0, .int .u64 0, .int .u64 0, .int .u64 0], .bool false]) (by simp [results, Tryz.results105, go_sem, Rc0, Rc1, Rc2, Rc3, Rc4]) rfl ⟨rfl, by repeat (first | (with_reducible exact BW1) | (with_reducible refine bal ?_ _) | (with_reducible refine Below.drew ?_) | (with_reducible refine bdn ?_ _) | ((with_reducible refine bsc ?_ ?_ _); rotate_left; (focus (simp only []; omega))))⟩
set_option maxHeartbeats 1000000 in
set_option maxRecDepth 100000 in
theorem rwhole_behind (b E B : Int) (g : Bool) (D L : Nat) (hlD : (digs D).length ≤ 1000) (hL : blen D = L)  (hB : 0 < B) (w : World)
    (hp : ∀ W, Calls Tryz.prog 72 #[.int .u64 b] W fun e w' => ∃ s', e = .returned (.tuple #[.bool g, s', .int .i64 E, .bool true]) ∧ DR w' s' D ∧ Below W.heap.size W w')
    (hbh : ∀ W, Calls Tryz.prog 73 #[.int .u64 b] W fun e w' => e = .returned (.int .i64 B) ∧ Below W.heap.size W w') :
    Calls Tryz.prog 105 #[.int .u64 b] w fun e w' => e = .returned (.tuple #[.agg #[.bool false, .int .u64 0, .int .u64 0, .int .u64 0, .int .u64 0], .bool false]) ∧ Below w.heap.size w w' := by
  have HP := Lib.hid hp; have HBH := Lib.hid hbh; have HLD := Lib.hid hlD; have HL := Lib.hid hL; clear hp hbh hlD hL
  go_enter Tryz.func105, Tryz.ntmps105
  go_wp2_with fail
  refine (HP.out _).mono ?_
  rintro e w1 ⟨s1, rfl, hr, hb⟩
  have hbX : Below w.heap.size w w1 := btr (by repeat (first | (with_reducible exact Below.refl _ _) | (with_reducible refine bal ?_ _) | (with_reducible refine Below.drew ?_) | (with_reducible refine bdn ?_ _))) hb
  clear hbX
  have DD1 : DR w1 s1 D := hr
  clear hr
  have BW1 : Below w.heap.size w w1 := btr (by repeat (first | (with_reducible exact Below.refl _ _) | (with_reducible refine bal ?_ _) | (with_reducible refine Below.drew ?_) | (with_reducible refine bdn ?_ _))) hb
  have R1 : Row5 w1 w.heap.size (.bool false) (.int .u64 0) (.int .u64 0) (.int .u64 0) (.int .u64 0) := Row5.keep hb (by repeat (first | (with_reducible exact Row5.new _ _ _ _ _ _) | ((with_reducible refine Row5.new' _ ?_ _ _ _ _ _); (simp; done)) | (with_reducible refine Row5.alloc ?_ _) | (with_reducible refine Row5.drew ?_)))
  clear hb
  go_wp2_with fail
  refine (HBH.out _).mono ?_
  rintro e w2 ⟨rfl, hb⟩
  have hbX : Below w1.heap.size w1 w2 := btr (by repeat (first | (with_reducible exact Below.refl _ _) | (with_reducible refine bal ?_ _) | (with_reducible refine Below.drew ?_) | (with_reducible refine bdn ?_ _))) hb
  have DD2 : DR w2 s1 D := DR.keep hbX DD1
  clear DD1
  clear hbX
  have BW2 : Below w.heap.size w w2 := btr (by repeat (first | (with_reducible exact BW1) | (with_reducible refine bal ?_ _) | (with_reducible refine Below.drew ?_) | (with_reducible refine bdn ?_ _))) hb
  have R2 : Row5 w2 w.heap.size (.bool false) (.int .u64 0) (.int .u64 0) (.int .u64 0) (.int .u64 0) := Row5.keep hb (by repeat (first | (with_reducible exact R1) | (with_reducible refine Row5.alloc ?_ _) | (with_reducible refine Row5.drew ?_)))
  clear R1
  clear BW1
  clear hb
  obtain ⟨Rc0, Rc1, Rc2, Rc3, Rc4⟩ := R2.parts
  obtain ⟨Rf0, Rf1, Rf2, Rf3, Rf4⟩ := R2.free
  go_wp2
  exact bodyPost_ret (v := .tuple #[.agg #[.bool false, .int .u64 0, .int .u64 0, .int .u64 0, .int .u64 0], .bool false]) (by simp [results, Tryz.results105, go_sem, Rc0, Rc1, Rc2, Rc3, Rc4]) rfl ⟨rfl, by repeat (first | (with_reducible exact BW2) | (with_reducible refine bal ?_ _) | (with_reducible refine Below.drew ?_) | (with_reducible refine bdn ?_ _) | ((with_reducible refine bsc ?_ ?_ _); rotate_left; (focus (simp only []; omega))))⟩
set_option maxHeartbeats 1000000 in
set_option maxRecDepth 100000 in
theorem rwhole_big (b E B : Int) (g : Bool) (D L : Nat) (hlD : (digs D).length ≤ 1000) (hL : blen D = L)  (hE0 : -1074 ≤ E) (hE1 : E ≤ 1000) (hL1 : L ≤ 64) (hB0 : B = 0) (hbig : 256 < (L : Int) + E) (w : World)
    (hp : ∀ W, Calls Tryz.prog 72 #[.int .u64 b] W fun e w' => ∃ s', e = .returned (.tuple #[.bool g, s', .int .i64 E, .bool true]) ∧ DR w' s' D ∧ Below W.heap.size W w')
    (hbh : ∀ W, Calls Tryz.prog 73 #[.int .u64 b] W fun e w' => e = .returned (.int .i64 B) ∧ Below W.heap.size W w') :
    Calls Tryz.prog 105 #[.int .u64 b] w fun e w' => e = .returned (.tuple #[.agg #[.bool false, .int .u64 0, .int .u64 0, .int .u64 0, .int .u64 0], .bool false]) ∧ Below w.heap.size w w' := by
  have HP := Lib.hid hp; have HBH := Lib.hid hbh; have HLD := Lib.hid hlD; have HL := Lib.hid hL; clear hp hbh hlD hL
  subst hB0
  go_enter Tryz.func105, Tryz.ntmps105
  go_wp2_with fail
  refine (HP.out _).mono ?_
  rintro e w1 ⟨s1, rfl, hr, hb⟩
  have hbX : Below w.heap.size w w1 := btr (by repeat (first | (with_reducible exact Below.refl _ _) | (with_reducible refine bal ?_ _) | (with_reducible refine Below.drew ?_) | (with_reducible refine bdn ?_ _))) hb
  clear hbX
  have DD1 : DR w1 s1 D := hr
  clear hr
  have BW1 : Below w.heap.size w w1 := btr (by repeat (first | (with_reducible exact Below.refl _ _) | (with_reducible refine bal ?_ _) | (with_reducible refine Below.drew ?_) | (with_reducible refine bdn ?_ _))) hb
  have R1 : Row5 w1 w.heap.size (.bool false) (.int .u64 0) (.int .u64 0) (.int .u64 0) (.int .u64 0) := Row5.keep hb (by repeat (first | (with_reducible exact Row5.new _ _ _ _ _ _) | ((with_reducible refine Row5.new' _ ?_ _ _ _ _ _); (simp; done)) | (with_reducible refine Row5.alloc ?_ _) | (with_reducible refine Row5.drew ?_)))
  clear hb
  go_wp2_with fail
  refine (HBH.out _).mono ?_
  rintro e w2 ⟨rfl, hb⟩
  have hbX : Below w1.heap.size w1 w2 := btr (by repeat (first | (with_reducible exact Below.refl _ _) | (with_reducible refine bal ?_ _) | (with_reducible refine Below.drew ?_) | (with_reducible refine bdn ?_ _))) hb
  have DD2 : DR w2 s1 D := DR.keep hbX DD1
  clear DD1
  clear hbX
  have BW2 : Below w.heap.size w w2 := btr (by repeat (first | (with_reducible exact BW1) | (with_reducible refine bal ?_ _) | (with_reducible refine Below.drew ?_) | (with_reducible refine bdn ?_ _))) hb
  have R2 : Row5 w2 w.heap.size (.bool false) (.int .u64 0) (.int .u64 0) (.int .u64 0) (.int .u64 0) := Row5.keep hb (by repeat (first | (with_reducible exact R1) | (with_reducible refine Row5.alloc ?_ _) | (with_reducible refine Row5.drew ?_)))
  clear R1
  clear BW1
  clear hb
  have hln := fun (W : World) (hW : Below w2.heap.size w2 W) => rlen (w := W) (DR.keep hW DD2) HLD.out
  rw [HL.out] at hln
  have HLN := Lib.hid hln; clear hln
  go_wp2_with fail
  refine (calls_below0 (HLN.out _ (by repeat (first | (with_reducible exact Below.refl _ _) | (with_reducible refine bal ?_ _) | (with_reducible refine Below.drew ?_) | (with_reducible refine bdn ?_ _))))).mono ?_
  rintro e w3 ⟨rfl, hb⟩
  have hbX : Below w2.heap.size w2 w3 := btr (by repeat (first | (with_reducible exact Below.refl _ _) | (with_reducible refine bal ?_ _) | (with_reducible refine Below.drew ?_) | (with_reducible refine bdn ?_ _))) hb
  have DD3 : DR w3 s1 D := DR.keep hbX DD2
  clear DD2
  clear hbX
  have BW3 : Below w.heap.size w w3 := btr (by repeat (first | (with_reducible exact BW2) | (with_reducible refine bal ?_ _) | (with_reducible refine Below.drew ?_) | (with_reducible refine bdn ?_ _))) hb
  have R3 : Row5 w3 w.heap.size (.bool false) (.int .u64 0) (.int .u64 0) (.int .u64 0) (.int .u64 0) := Row5.keep hb (by repeat (first | (with_reducible exact R2) | (with_reducible refine Row5.alloc ?_ _) | (with_reducible refine Row5.drew ?_)))
  clear R2
  clear BW2
  clear hb
  clear HLN
  obtain ⟨Rc0, Rc1, Rc2, Rc3, Rc4⟩ := R3.parts
  obtain ⟨Rf0, Rf1, Rf2, Rf3, Rf4⟩ := R3.free
  go_wp2
  exact bodyPost_ret (v := .tuple #[.agg #[.bool false, .int .u64 0, .int .u64 0, .int .u64 0, .int .u64 0], .bool false]) (by simp [results, Tryz.results105, go_sem, Rc0, Rc1, Rc2, Rc3, Rc4]) rfl ⟨rfl, by repeat (first | (with_reducible exact BW3) | (with_reducible refine bal ?_ _) | (with_reducible refine Below.drew ?_) | (with_reducible refine bdn ?_ _) | ((with_reducible refine bsc ?_ ?_ _); rotate_left; (focus (simp only []; omega))))⟩
set_option maxHeartbeats 1000000 in
set_option maxRecDepth 100000 in
theorem rwhole_zero (b E B : Int) (g : Bool) (D L : Nat) (hlD : (digs D).length ≤ 1000) (hL : blen D = L)  (hE0 : -1074 ≤ E) (hE1 : E ≤ 1000) (hL1 : L ≤ 64) (hB0 : B = 0) (hz : L = 0) (hsm : (L : Int) + E ≤ 256) (w : World)
    (hp : ∀ W, Calls Tryz.prog 72 #[.int .u64 b] W fun e w' => ∃ s', e = .returned (.tuple #[.bool g, s', .int .i64 E, .bool true]) ∧ DR w' s' D ∧ Below W.heap.size W w')
    (hbh : ∀ W, Calls Tryz.prog 73 #[.int .u64 b] W fun e w' => e = .returned (.int .i64 B) ∧ Below W.heap.size W w') :
    Calls Tryz.prog 105 #[.int .u64 b] w fun e w' => e = .returned (.tuple #[.agg #[.bool false, .int .u64 0, .int .u64 0, .int .u64 0, .int .u64 0], .bool true]) ∧ Below w.heap.size w w' := by
  have HP := Lib.hid hp; have HBH := Lib.hid hbh; have HLD := Lib.hid hlD; have HL := Lib.hid hL; clear hp hbh hlD hL
  subst hB0; subst hz
  go_enter Tryz.func105, Tryz.ntmps105
  go_wp2_with fail
  refine (HP.out _).mono ?_
  rintro e w1 ⟨s1, rfl, hr, hb⟩
  have hbX : Below w.heap.size w w1 := btr (by repeat (first | (with_reducible exact Below.refl _ _) | (with_reducible refine bal ?_ _) | (with_reducible refine Below.drew ?_) | (with_reducible refine bdn ?_ _))) hb
  clear hbX
  have DD1 : DR w1 s1 D := hr
  clear hr
  have BW1 : Below w.heap.size w w1 := btr (by repeat (first | (with_reducible exact Below.refl _ _) | (with_reducible refine bal ?_ _) | (with_reducible refine Below.drew ?_) | (with_reducible refine bdn ?_ _))) hb
  have R1 : Row5 w1 w.heap.size (.bool false) (.int .u64 0) (.int .u64 0) (.int .u64 0) (.int .u64 0) := Row5.keep hb (by repeat (first | (with_reducible exact Row5.new _ _ _ _ _ _) | ((with_reducible refine Row5.new' _ ?_ _ _ _ _ _); (simp; done)) | (with_reducible refine Row5.alloc ?_ _) | (with_reducible refine Row5.drew ?_)))
  clear hb
  go_wp2_with fail
  refine (HBH.out _).mono ?_
  rintro e w2 ⟨rfl, hb⟩
  have hbX : Below w1.heap.size w1 w2 := btr (by repeat (first | (with_reducible exact Below.refl _ _) | (with_reducible refine bal ?_ _) | (with_reducible refine Below.drew ?_) | (with_reducible refine bdn ?_ _))) hb
  have DD2 : DR w2 s1 D := DR.keep hbX DD1
  clear DD1
  clear hbX
  have BW2 : Below w.heap.size w w2 := btr (by repeat (first | (with_reducible exact BW1) | (with_reducible refine bal ?_ _) | (with_reducible refine Below.drew ?_) | (with_reducible refine bdn ?_ _))) hb
  have R2 : Row5 w2 w.heap.size (.bool false) (.int .u64 0) (.int .u64 0) (.int .u64 0) (.int .u64 0) := Row5.keep hb (by repeat (first | (with_reducible exact R1) | (with_reducible refine Row5.alloc ?_ _) | (with_reducible refine Row5.drew ?_)))
  clear R1
  clear BW1
  clear hb
  have hln := fun (W : World) (hW : Below w2.heap.size w2 W) => rlen (w := W) (DR.keep hW DD2) HLD.out
  rw [HL.out] at hln
  have HLN := Lib.hid hln; clear hln
  go_wp2_with fail
  refine (calls_below0 (HLN.out _ (by repeat (first | (with_reducible exact Below.refl _ _) | (with_reducible refine bal ?_ _) | (with_reducible refine Below.drew ?_) | (with_reducible refine bdn ?_ _))))).mono ?_
  rintro e w3 ⟨rfl, hb⟩
  have hbX : Below w2.heap.size w2 w3 := btr (by repeat (first | (with_reducible exact Below.refl _ _) | (with_reducible refine bal ?_ _) | (with_reducible refine Below.drew ?_) | (with_reducible refine bdn ?_ _))) hb
  have DD3 : DR w3 s1 D := DR.keep hbX DD2
  clear DD2
  clear hbX
  have BW3 : Below w.heap.size w w3 := btr (by repeat (first | (with_reducible exact BW2) | (with_reducible refine bal ?_ _) | (with_reducible refine Below.drew ?_) | (with_reducible refine bdn ?_ _))) hb
  have R3 : Row5 w3 w.heap.size (.bool false) (.int .u64 0) (.int .u64 0) (.int .u64 0) (.int .u64 0) := Row5.keep hb (by repeat (first | (with_reducible exact R2) | (with_reducible refine Row5.alloc ?_ _) | (with_reducible refine Row5.drew ?_)))
  clear R2
  clear BW2
  clear hb
  clear HLN
  have hln := fun (W : World) (hW : Below w3.heap.size w3 W) => rlen (w := W) (DR.keep hW DD3) HLD.out
  rw [HL.out] at hln
  have HLN := Lib.hid hln; clear hln
  go_wp2_with fail
  refine (calls_below0 (HLN.out _ (by repeat (first | (with_reducible exact Below.refl _ _) | (with_reducible refine bal ?_ _) | (with_reducible refine Below.drew ?_) | (with_reducible refine bdn ?_ _))))).mono ?_
  rintro e w4 ⟨rfl, hb⟩
  have hbX : Below w3.heap.size w3 w4 := btr (by repeat (first | (with_reducible exact Below.refl _ _) | (with_reducible refine bal ?_ _) | (with_reducible refine Below.drew ?_) | (with_reducible refine bdn ?_ _))) hb
  have DD4 : DR w4 s1 D := DR.keep hbX DD3
  clear DD3
  clear hbX
  have BW4 : Below w.heap.size w w4 := btr (by repeat (first | (with_reducible exact BW3) | (with_reducible refine bal ?_ _) | (with_reducible refine Below.drew ?_) | (with_reducible refine bdn ?_ _))) hb
  have R4 : Row5 w4 w.heap.size (.bool false) (.int .u64 0) (.int .u64 0) (.int .u64 0) (.int .u64 0) := Row5.keep hb (by repeat (first | (with_reducible exact R3) | (with_reducible refine Row5.alloc ?_ _) | (with_reducible refine Row5.drew ?_)))
  clear R3
  clear BW3
  clear hb
  clear HLN
  obtain ⟨Rc0, Rc1, Rc2, Rc3, Rc4⟩ := R4.parts
  obtain ⟨Rf0, Rf1, Rf2, Rf3, Rf4⟩ := R4.free
  go_wp2
  exact bodyPost_ret (v := .tuple #[.agg #[.bool false, .int .u64 0, .int .u64 0, .int .u64 0, .int .u64 0], .bool true]) (by simp [results, Tryz.results105, go_sem, Rc0, Rc1, Rc2, Rc3, Rc4]) rfl ⟨rfl, by repeat (first | (with_reducible exact BW4) | (with_reducible refine bal ?_ _) | (with_reducible refine Below.drew ?_) | (with_reducible refine bdn ?_ _) | ((with_reducible refine bsc ?_ ?_ _); rotate_left; (focus (simp only []; omega))))⟩
set_option maxHeartbeats 1000000 in
set_option maxRecDepth 100000 in
theorem rwhole_ok (b E B : Int) (g : Bool) (D L : Nat) (hlD : (digs D).length ≤ 1000) (hL : blen D = L)  (hE0 : -1074 ≤ E) (hE1 : E ≤ 1000) (hL1 : L ≤ 64) (hB0 : B = 0) (hz : L ≠ 0) (hsm : (L : Int) + E ≤ 256) (V : Nat) (hV : shv D E = V) (hV1 : V < 2 ^ 256) (Y : Int) (hY : (if g then -(V : Int) else V) = Y) (w : World)
    (hp : ∀ W, Calls Tryz.prog 72 #[.int .u64 b] W fun e w' => ∃ s', e = .returned (.tuple #[.bool g, s', .int .i64 E, .bool true]) ∧ DR w' s' D ∧ Below W.heap.size W w')
    (hbh : ∀ W, Calls Tryz.prog 73 #[.int .u64 b] W fun e w' => e = .returned (.int .i64 B) ∧ Below W.heap.size W w') :
    Calls Tryz.prog 105 #[.int .u64 b] w fun e w' => e = .returned (.tuple #[Iz Y, .bool true]) ∧ Below w.heap.size w w' := by
  have HP := Lib.hid hp; have HBH := Lib.hid hbh; have HLD := Lib.hid hlD; have HL := Lib.hid hL; clear hp hbh hlD hL
  subst hB0
  have hz2 : ((L : Int) == 0) = false := by rw [beq_eq_false_iff_ne]; omega
  have HV := Lib.hid hV; have HV1 := Lib.hid hV1; have HYY := Lib.hid hY; clear hz hV hV1 hY
  go_enter Tryz.func105, Tryz.ntmps105
  go_wp2_with fail
  refine (HP.out _).mono ?_
  rintro e w1 ⟨s1, rfl, hr, hb⟩
  have hbX : Below w.heap.size w w1 := btr (by repeat (first | (with_reducible exact Below.refl _ _) | (with_reducible refine bal ?_ _) | (with_reducible refine Below.drew ?_) | (with_reducible refine bdn ?_ _))) hb
  clear hbX
  have DD1 : DR w1 s1 D := hr
  clear hr
  have BW1 : Below w.heap.size w w1 := btr (by repeat (first | (with_reducible exact Below.refl _ _) | (with_reducible refine bal ?_ _) | (with_reducible refine Below.drew ?_) | (with_reducible refine bdn ?_ _))) hb
  have R1 : Row5 w1 w.heap.size (.bool false) (.int .u64 0) (.int .u64 0) (.int .u64 0) (.int .u64 0) := Row5.keep hb (by repeat (first | (with_reducible exact Row5.new _ _ _ _ _ _) | ((with_reducible refine Row5.new' _ ?_ _ _ _ _ _); (simp; done)) | (with_reducible refine Row5.alloc ?_ _) | (with_reducible refine Row5.drew ?_)))
  clear hb
  go_wp2_with fail
  refine (HBH.out _).mono ?_
  rintro e w2 ⟨rfl, hb⟩
  have hbX : Below w1.heap.size w1 w2 := btr (by repeat (first | (with_reducible exact Below.refl _ _) | (with_reducible refine bal ?_ _) | (with_reducible refine Below.drew ?_) | (with_reducible refine bdn ?_ _))) hb
  have DD2 : DR w2 s1 D := DR.keep hbX DD1
  clear DD1
  clear hbX
  have BW2 : Below w.heap.size w w2 := btr (by repeat (first | (with_reducible exact BW1) | (with_reducible refine bal ?_ _) | (with_reducible refine Below.drew ?_) | (with_reducible refine bdn ?_ _))) hb
  have R2 : Row5 w2 w.heap.size (.bool false) (.int .u64 0) (.int .u64 0) (.int .u64 0) (.int .u64 0) := Row5.keep hb (by repeat (first | (with_reducible exact R1) | (with_reducible refine Row5.alloc ?_ _) | (with_reducible refine Row5.drew ?_)))
  clear R1
  clear BW1
  clear hb
  have hln := fun (W : World) (hW : Below w2.heap.size w2 W) => rlen (w := W) (DR.keep hW DD2) HLD.out
  rw [HL.out] at hln
  have HLN := Lib.hid hln; clear hln
  go_wp2_with fail
  refine (calls_below0 (HLN.out _ (by repeat (first | (with_reducible exact Below.refl _ _) | (with_reducible refine bal ?_ _) | (with_reducible refine Below.drew ?_) | (with_reducible refine bdn ?_ _))))).mono ?_
  rintro e w3 ⟨rfl, hb⟩
  have hbX : Below w2.heap.size w2 w3 := btr (by repeat (first | (with_reducible exact Below.refl _ _) | (with_reducible refine bal ?_ _) | (with_reducible refine Below.drew ?_) | (with_reducible refine bdn ?_ _))) hb
  have DD3 : DR w3 s1 D := DR.keep hbX DD2
  clear DD2
  clear hbX
  have BW3 : Below w.heap.size w w3 := btr (by repeat (first | (with_reducible exact BW2) | (with_reducible refine bal ?_ _) | (with_reducible refine Below.drew ?_) | (with_reducible refine bdn ?_ _))) hb
  have R3 : Row5 w3 w.heap.size (.bool false) (.int .u64 0) (.int .u64 0) (.int .u64 0) (.int .u64 0) := Row5.keep hb (by repeat (first | (with_reducible exact R2) | (with_reducible refine Row5.alloc ?_ _) | (with_reducible refine Row5.drew ?_)))
  clear R2
  clear BW2
  clear hb
  clear HLN
  have hln := fun (W : World) (hW : Below w3.heap.size w3 W) => rlen (w := W) (DR.keep hW DD3) HLD.out
  rw [HL.out] at hln
  have HLN := Lib.hid hln; clear hln
  go_wp2_with fail
  refine (calls_below0 (HLN.out _ (by repeat (first | (with_reducible exact Below.refl _ _) | (with_reducible refine bal ?_ _) | (with_reducible refine Below.drew ?_) | (with_reducible refine bdn ?_ _))))).mono ?_
  rintro e w4 ⟨rfl, hb⟩
  have hbX : Below w3.heap.size w3 w4 := btr (by repeat (first | (with_reducible exact Below.refl _ _) | (with_reducible refine bal ?_ _) | (with_reducible refine Below.drew ?_) | (with_reducible refine bdn ?_ _))) hb
  have DD4 : DR w4 s1 D := DR.keep hbX DD3
  clear DD3
  clear hbX
  have BW4 : Below w.heap.size w w4 := btr (by repeat (first | (with_reducible exact BW3) | (with_reducible refine bal ?_ _) | (with_reducible refine Below.drew ?_) | (with_reducible refine bdn ?_ _))) hb
  have R4 : Row5 w4 w.heap.size (.bool false) (.int .u64 0) (.int .u64 0) (.int .u64 0) (.int .u64 0) := Row5.keep hb (by repeat (first | (with_reducible exact R3) | (with_reducible refine Row5.alloc ?_ _) | (with_reducible refine Row5.drew ?_)))
  clear R3
  clear BW3
  clear hb
  clear HLN
  go_wp2_with fail
  refine (rshift (DR.keep (by repeat (first | (with_reducible exact Below.refl _ _) | (with_reducible refine bal ?_ _) | (with_reducible refine Below.drew ?_) | (with_reducible refine bdn ?_ _))) DD4) HLD.out E (by omega) (by omega)).mono ?_
  rintro e w5 ⟨s2, rfl, hr, hb⟩
  have hbX : Below w4.heap.size w4 w5 := btr (by repeat (first | (with_reducible exact Below.refl _ _) | (with_reducible refine bal ?_ _) | (with_reducible refine Below.drew ?_) | (with_reducible refine bdn ?_ _))) hb
  have DD5 : DR w5 s1 D := DR.keep hbX DD4
  clear DD4
  clear hbX
  have DV5 : DR w5 s2 (shv D E) := hr
  clear hr
  have BW5 : Below w.heap.size w w5 := btr (by repeat (first | (with_reducible exact BW4) | (with_reducible refine bal ?_ _) | (with_reducible refine Below.drew ?_) | (with_reducible refine bdn ?_ _))) hb
  have R5 : Row5 w5 w.heap.size (.bool false) (.int .u64 0) (.int .u64 0) (.int .u64 0) (.int .u64 0) := Row5.keep hb (by repeat (first | (with_reducible exact R4) | (with_reducible refine Row5.alloc ?_ _) | (with_reducible refine Row5.drew ?_)))
  clear R4
  clear BW4
  clear hb
  have hwh := rwh (w := w5) g DV5
  rw [HV.out, if_pos HV1.out, HYY.out] at hwh
  have HWH := Lib.hid hwh; clear hwh
  go_wp2_with fail
  refine (HWH.out).mono ?_
  rintro e w6 ⟨rfl, hb⟩
  have hbX : Below w5.heap.size w5 w6 := btr (by repeat (first | (with_reducible exact Below.refl _ _) | (with_reducible refine bal ?_ _) | (with_reducible refine Below.drew ?_) | (with_reducible refine bdn ?_ _))) hb
  have DD6 : DR w6 s1 D := DR.keep hbX DD5
  have DV6 : DR w6 s2 (shv D E) := DR.keep hbX DV5
  clear DD5 DV5
  clear hbX
  have BW6 : Below w.heap.size w w6 := btr (by repeat (first | (with_reducible exact BW5) | (with_reducible refine bal ?_ _) | (with_reducible refine Below.drew ?_) | (with_reducible refine bdn ?_ _))) hb
  have R6 : Row5 w6 w.heap.size (.bool false) (.int .u64 0) (.int .u64 0) (.int .u64 0) (.int .u64 0) := Row5.keep hb (by repeat (first | (with_reducible exact R5) | (with_reducible refine Row5.alloc ?_ _) | (with_reducible refine Row5.drew ?_)))
  clear R5
  clear BW5
  clear hb
  obtain ⟨Rc0, Rc1, Rc2, Rc3, Rc4⟩ := R6.parts
  obtain ⟨Rf0, Rf1, Rf2, Rf3, Rf4⟩ := R6.free
  go_wp2
  exact bodyPost_ret (v := .tuple #[Iz Y, .bool true]) (by simp [results, Tryz.results105, go_sem, Rc0, Rc1, Rc2, Rc3, Rc4]) rfl ⟨rfl, by repeat (first | (with_reducible exact BW6) | (with_reducible refine bal ?_ _) | (with_reducible refine Below.drew ?_) | (with_reducible refine bdn ?_ _) | ((with_reducible refine bsc ?_ ?_ _); rotate_left; (focus (simp only []; omega))))⟩
theorem blen_pow {o t : Nat} (h : o ≠ 0) : blen (o * 2 ^ t) = blen o + t := by
  have hp := Nat.two_pow_pos t
  have h2 : o * 2 ^ t ≠ 0 := Nat.mul_ne_zero h (by omega)
  unfold blen
  rw [if_neg h, if_neg h2, lg_mul o t h]
  omega
theorem wend_no {b : Nat} (h : whl b = none) : WEnd b = .tuple #[Z5, .bool false] := by unfold WEnd; rw [h]
theorem wend_nought {b : Nat} (h : whl b = some 0) : WEnd b = .tuple #[Z5, .bool true] := by
  unfold WEnd
  rw [h]
  have e0 : (if sg b = 1 then -((0 : Nat) : Int) else ((0 : Nat) : Int)) = 0 := by split <;> rfl
  simp only [e0]
  rw [← Iz_zero]
theorem rfwhole (b : Nat) (hb : b < 18446744073709551616) (w : World) :
    Calls Tryz.prog 105 #[.int .u64 b] w fun e w' => e = .returned (WEnd b) ∧ Below w.heap.size w w' := by
  have he := ex_bounds b
  by_cases h : rg b < INF
  · have hp := fun W => rparts_fin b hb h W
    have hbh := fun W => rbehind b hb W
    have hdl := dg_lt b
    have hL1 : blen (dg b) ≤ 64 := blen_le (k := 64) hdl
    by_cases hB : 0 < beh b
    · have hn : whl b = none := by
        unfold beh at hB
        rw [if_pos h] at hB
        unfold whl
        rw [if_neg (fun hh => by have := hh.2.1; omega)]
      rw [wend_no hn]
      exact rwhole_behind b _ _ _ _ _ (dg_len b) rfl (by omega) w hp hbh
    · have hB0 : ((beh b : Nat) : Int) = 0 := by omega
      have hpw : 0 ≤ pw b := by
        unfold beh at hB
        rw [if_pos h] at hB
        omega
      by_cases h0 : dg b = 0
      · have hn : whl b = some 0 := by
          unfold whl
          have e1 : od b = 0 := by unfold od; rw [if_pos h0]
          have e2 : pw b = 0 := by unfold pw; rw [if_pos h0]
          rw [e1, e2, if_pos ⟨h, by omega, by decide⟩]
          rfl
        have hE : ex b = -1074 := by
          have hF : b / 4503599627370496 % 2048 = 0 := by
            apply Decidable.byContradiction
            intro hc; unfold dg at h0; rw [if_neg hc] at h0; omega
          unfold ex; rw [if_pos hF]
        have hL : blen (dg b) = 0 := by rw [h0]; rfl
        rw [wend_nought hn]
        exact rwhole_zero b _ _ _ _ _ (dg_len b) rfl (by omega) (by omega) hL1 hB0 hL (by omega) w hp hbh
      · obtain ⟨m, hm, ht⟩ := ctz_word h0 hdl
        have hpe := pw_ex h0
        obtain ⟨t, et⟩ : ∃ t, t = Lib.ctz 64 (dg b) := ⟨_, rfl⟩
        rw [← et] at hm ht hpe
        have hod : od b = 2 * m + 1 := by
          unfold od
          rw [if_neg h0, ← et, hm, Nat.mul_div_cancel_left _ (Nat.two_pow_pos t)]
        have ho0 : 2 * m + 1 ≠ 0 := by omega
        have hL : blen (dg b) = blen (2 * m + 1) + t := by rw [hm, Nat.mul_comm, blen_pow ho0]
        obtain ⟨p, hpn⟩ := Int.eq_ofNat_of_zero_le hpw
        have hV : shv (dg b) (ex b) = (2 * m + 1) * 2 ^ p := by
          unfold shv
          by_cases hE : 0 ≤ ex b
          · rw [if_pos hE, hm, Nat.mul_comm (2 ^ t), Nat.mul_assoc, ← Nat.pow_add]
            congr 2
            omega
          · rw [if_neg hE]
            have e2 : dg b = 2 ^ (-(ex b)).toNat * ((2 * m + 1) * 2 ^ p) := by
              rw [hm, Nat.mul_comm (2 ^ t), Nat.mul_left_comm, ← Nat.pow_add]
              congr 2
              omega
            rw [e2, Nat.mul_div_cancel_left _ (Nat.two_pow_pos _)]
        have hfit := mul_pow_lt (x := 2 * m + 1) (k := p) ho0
        by_cases hbig : 256 < ((blen (dg b) : Nat) : Int) + ex b
        · have hn : whl b = none := by
            unfold whl
            rw [hod, hpn, Int.toNat_natCast, if_neg (fun hh => by have := hfit.1 hh.2.2; omega)]
          rw [wend_no hn]
          exact rwhole_big b _ _ _ _ _ (dg_len b) rfl (by omega) (by omega) hL1 hB0 hbig w hp hbh
        · have hV1 : (2 * m + 1) * 2 ^ p < 2 ^ 256 := hfit.2 (by omega)
          have hn : whl b = some ((2 * m + 1) * 2 ^ p) := by
            unfold whl
            rw [hod, hpn, Int.toNat_natCast, if_pos ⟨h, by omega, hV1⟩]
          have e : WEnd b = .tuple #[Iz (if (sg b == 1) then -(((2 * m + 1) * 2 ^ p : Nat) : Int) else (((2 * m + 1) * 2 ^ p : Nat) : Int)), .bool true] := by
            unfold WEnd
            rw [hn]
            have h2 : sg b = 0 ∨ sg b = 1 := by unfold sg; omega
            rcases h2 with h2 | h2 <;> rw [h2] <;> rfl
          rw [e]
          exact rwhole_ok b _ _ _ _ _ (dg_len b) rfl (by omega) (by omega) hL1 hB0 (by have := (blen_spec h0).1; omega) (by omega) _ hV hV1 _ rfl w hp hbh
  · have hn : whl b = none := by unfold whl; rw [if_neg (fun hh => h hh.1)]
    rw [wend_no hn]
    exact rwhole_inf b _ w (fun W => rparts_inf b hb h W)
end Go.Proofs.YtocffoemimghhaaGreatDoor
end
section
namespace Go.Proofs.YtocffoemimghhaaGreatDoor
open Go.RowKit Go.Shelf
attribute [local go_sem ↓] eql_nat neq_nat eql_int5 neq_int5

set_option maxHeartbeats 1000000 in
set_option maxRecDepth 100000 in
theorem rcls_whole (b : Int) (g : Bool) (x0 x1 x2 x3 : Int)  (w : World)
    (k1 : ∀ W, Calls Tryz.prog 105 #[.int .u64 b] W fun e w' => e = .returned (.tuple #[.agg #[.bool g, .int .u64 x0, .int .u64 x1, .int .u64 x2, .int .u64 x3], .bool true]) ∧ Below W.heap.size W w') :
    Calls Tryz.prog 66 #[.int .u64 b] w fun e w' => e = .returned (.int .i64 0) ∧ Below w.heap.size w w' := by
  have K1 := Lib.hid k1; clear k1
  go_enter Tryz.func66, Tryz.ntmps66
  go_wp2_with fail
  refine (K1.out _).mono ?_
  rintro e w1 ⟨rfl, hb⟩
  have BW1 : Below w.heap.size w w1 := btr (by repeat (first | (with_reducible exact Below.refl _ _) | (with_reducible refine bal ?_ _) | (with_reducible refine Below.drew ?_) | (with_reducible refine bdn ?_ _))) hb
  clear hb
  go_wp2
  go_ret
  exact ⟨rfl, by repeat (first | (with_reducible exact BW1) | (with_reducible refine bal ?_ _) | (with_reducible refine Below.drew ?_) | (with_reducible refine bdn ?_ _))⟩

set_option maxHeartbeats 1000000 in
set_option maxRecDepth 100000 in
theorem rcls_plain (b : Int) (g : Bool) (x0 x1 x2 x3 : Int) (sg : Bool) (E B : Int) (D : Nat) (h0 : 1 ≤ B) (h1 : B ≤ 64) (w : World)
    (k1 : ∀ W, Calls Tryz.prog 105 #[.int .u64 b] W fun e w' => e = .returned (.tuple #[.agg #[.bool g, .int .u64 x0, .int .u64 x1, .int .u64 x2, .int .u64 x3], .bool false]) ∧ Below W.heap.size W w')
    (k2 : ∀ W, Calls Tryz.prog 72 #[.int .u64 b] W fun e w' => ∃ s', e = .returned (.tuple #[.bool sg, s', .int .i64 E, .bool true]) ∧ DR w' s' D ∧ Below W.heap.size W w')
    (k3 : ∀ W, Calls Tryz.prog 73 #[.int .u64 b] W fun e w' => e = .returned (.int .i64 B) ∧ Below W.heap.size W w') :
    Calls Tryz.prog 66 #[.int .u64 b] w fun e w' => e = .returned (.int .i64 1) ∧ Below w.heap.size w w' := by
  have K1 := Lib.hid k1; clear k1
  have K2 := Lib.hid k2; clear k2
  have K3 := Lib.hid k3; clear k3
  go_enter Tryz.func66, Tryz.ntmps66
  go_wp2_with fail
  refine (K1.out _).mono ?_
  rintro e w1 ⟨rfl, hb⟩
  have BW1 : Below w.heap.size w w1 := btr (by repeat (first | (with_reducible exact Below.refl _ _) | (with_reducible refine bal ?_ _) | (with_reducible refine Below.drew ?_) | (with_reducible refine bdn ?_ _))) hb
  clear hb
  go_wp2_with fail
  refine (K2.out _).mono ?_
  rintro e w2 ⟨s1, rfl, hr, hb⟩
  have hbX : Below w1.heap.size w1 w2 := btr (by repeat (first | (with_reducible exact Below.refl _ _) | (with_reducible refine bal ?_ _) | (with_reducible refine Below.drew ?_) | (with_reducible refine bdn ?_ _))) hb
  clear hbX
  have DD2 : DR w2 s1 D := hr
  clear hr
  have BW2 : Below w.heap.size w w2 := btr (by repeat (first | (with_reducible exact BW1) | (with_reducible refine bal ?_ _) | (with_reducible refine Below.drew ?_) | (with_reducible refine bdn ?_ _))) hb
  clear BW1
  clear hb
  go_wp2_with fail
  refine (K3.out _).mono ?_
  rintro e w3 ⟨rfl, hb⟩
  have hbX : Below w2.heap.size w2 w3 := btr (by repeat (first | (with_reducible exact Below.refl _ _) | (with_reducible refine bal ?_ _) | (with_reducible refine Below.drew ?_) | (with_reducible refine bdn ?_ _))) hb
  have DD3 : DR w3 s1 D := DR.keep hbX DD2
  clear DD2
  clear hbX
  have BW3 : Below w.heap.size w w3 := btr (by repeat (first | (with_reducible exact BW2) | (with_reducible refine bal ?_ _) | (with_reducible refine Below.drew ?_) | (with_reducible refine bdn ?_ _))) hb
  clear BW2
  clear hb
  go_wp2_with fail
  refine (K3.out _).mono ?_
  rintro e w4 ⟨rfl, hb⟩
  have hbX : Below w3.heap.size w3 w4 := btr (by repeat (first | (with_reducible exact Below.refl _ _) | (with_reducible refine bal ?_ _) | (with_reducible refine Below.drew ?_) | (with_reducible refine bdn ?_ _))) hb
  have DD4 : DR w4 s1 D := DR.keep hbX DD3
  clear DD3
  clear hbX
  have BW4 : Below w.heap.size w w4 := btr (by repeat (first | (with_reducible exact BW3) | (with_reducible refine bal ?_ _) | (with_reducible refine Below.drew ?_) | (with_reducible refine bdn ?_ _))) hb
  clear BW3
  clear hb
  go_wp2
  go_ret
  exact ⟨rfl, by repeat (first | (with_reducible exact BW4) | (with_reducible refine bal ?_ _) | (with_reducible refine Below.drew ?_) | (with_reducible refine bdn ?_ _))⟩

set_option maxHeartbeats 1000000 in
set_option maxRecDepth 100000 in
theorem rcls_fine (b : Int) (g : Bool) (x0 x1 x2 x3 : Int) (sg : Bool) (E B : Int) (D : Nat) (h0 : 1 ≤ B) (h1 : 64 < B) (w : World)
    (k1 : ∀ W, Calls Tryz.prog 105 #[.int .u64 b] W fun e w' => e = .returned (.tuple #[.agg #[.bool g, .int .u64 x0, .int .u64 x1, .int .u64 x2, .int .u64 x3], .bool false]) ∧ Below W.heap.size W w')
    (k2 : ∀ W, Calls Tryz.prog 72 #[.int .u64 b] W fun e w' => ∃ s', e = .returned (.tuple #[.bool sg, s', .int .i64 E, .bool true]) ∧ DR w' s' D ∧ Below W.heap.size W w')
    (k3 : ∀ W, Calls Tryz.prog 73 #[.int .u64 b] W fun e w' => e = .returned (.int .i64 B) ∧ Below W.heap.size W w') :
    Calls Tryz.prog 66 #[.int .u64 b] w fun e w' => e = .returned (.int .i64 2) ∧ Below w.heap.size w w' := by
  have K1 := Lib.hid k1; clear k1
  have K2 := Lib.hid k2; clear k2
  have K3 := Lib.hid k3; clear k3
  go_enter Tryz.func66, Tryz.ntmps66
  go_wp2_with fail
  refine (K1.out _).mono ?_
  rintro e w1 ⟨rfl, hb⟩
  have BW1 : Below w.heap.size w w1 := btr (by repeat (first | (with_reducible exact Below.refl _ _) | (with_reducible refine bal ?_ _) | (with_reducible refine Below.drew ?_) | (with_reducible refine bdn ?_ _))) hb
  clear hb
  go_wp2_with fail
  refine (K2.out _).mono ?_
  rintro e w2 ⟨s1, rfl, hr, hb⟩
  have hbX : Below w1.heap.size w1 w2 := btr (by repeat (first | (with_reducible exact Below.refl _ _) | (with_reducible refine bal ?_ _) | (with_reducible refine Below.drew ?_) | (with_reducible refine bdn ?_ _))) hb
  clear hbX
  have DD2 : DR w2 s1 D := hr
  clear hr
  have BW2 : Below w.heap.size w w2 := btr (by repeat (first | (with_reducible exact BW1) | (with_reducible refine bal ?_ _) | (with_reducible refine Below.drew ?_) | (with_reducible refine bdn ?_ _))) hb
  clear BW1
  clear hb
  go_wp2_with fail
  refine (K3.out _).mono ?_
  rintro e w3 ⟨rfl, hb⟩
  have hbX : Below w2.heap.size w2 w3 := btr (by repeat (first | (with_reducible exact Below.refl _ _) | (with_reducible refine bal ?_ _) | (with_reducible refine Below.drew ?_) | (with_reducible refine bdn ?_ _))) hb
  have DD3 : DR w3 s1 D := DR.keep hbX DD2
  clear DD2
  clear hbX
  have BW3 : Below w.heap.size w w3 := btr (by repeat (first | (with_reducible exact BW2) | (with_reducible refine bal ?_ _) | (with_reducible refine Below.drew ?_) | (with_reducible refine bdn ?_ _))) hb
  clear BW2
  clear hb
  go_wp2_with fail
  refine (K3.out _).mono ?_
  rintro e w4 ⟨rfl, hb⟩
  have hbX : Below w3.heap.size w3 w4 := btr (by repeat (first | (with_reducible exact Below.refl _ _) | (with_reducible refine bal ?_ _) | (with_reducible refine Below.drew ?_) | (with_reducible refine bdn ?_ _))) hb
  have DD4 : DR w4 s1 D := DR.keep hbX DD3
  clear DD3
  clear hbX
  have BW4 : Below w.heap.size w w4 := btr (by repeat (first | (with_reducible exact BW3) | (with_reducible refine bal ?_ _) | (with_reducible refine Below.drew ?_) | (with_reducible refine bdn ?_ _))) hb
  clear BW3
  clear hb
  go_wp2
  go_ret
  exact ⟨rfl, by repeat (first | (with_reducible exact BW4) | (with_reducible refine bal ?_ _) | (with_reducible refine Below.drew ?_) | (with_reducible refine bdn ?_ _))⟩

set_option maxHeartbeats 1000000 in
set_option maxRecDepth 100000 in
theorem rcls_big (b : Int) (g : Bool) (x0 x1 x2 x3 : Int) (sg : Bool) (E B : Int) (D : Nat) (h0 : B < 1) (w : World)
    (k1 : ∀ W, Calls Tryz.prog 105 #[.int .u64 b] W fun e w' => e = .returned (.tuple #[.agg #[.bool g, .int .u64 x0, .int .u64 x1, .int .u64 x2, .int .u64 x3], .bool false]) ∧ Below W.heap.size W w')
    (k2 : ∀ W, Calls Tryz.prog 72 #[.int .u64 b] W fun e w' => ∃ s', e = .returned (.tuple #[.bool sg, s', .int .i64 E, .bool true]) ∧ DR w' s' D ∧ Below W.heap.size W w')
    (k3 : ∀ W, Calls Tryz.prog 73 #[.int .u64 b] W fun e w' => e = .returned (.int .i64 B) ∧ Below W.heap.size W w') :
    Calls Tryz.prog 66 #[.int .u64 b] w fun e w' => e = .returned (.int .i64 2) ∧ Below w.heap.size w w' := by
  have K1 := Lib.hid k1; clear k1
  have K2 := Lib.hid k2; clear k2
  have K3 := Lib.hid k3; clear k3
  go_enter Tryz.func66, Tryz.ntmps66
  go_wp2_with fail
  refine (K1.out _).mono ?_
  rintro e w1 ⟨rfl, hb⟩
  have BW1 : Below w.heap.size w w1 := btr (by repeat (first | (with_reducible exact Below.refl _ _) | (with_reducible refine bal ?_ _) | (with_reducible refine Below.drew ?_) | (with_reducible refine bdn ?_ _))) hb
  clear hb
  go_wp2_with fail
  refine (K2.out _).mono ?_
  rintro e w2 ⟨s1, rfl, hr, hb⟩
  have hbX : Below w1.heap.size w1 w2 := btr (by repeat (first | (with_reducible exact Below.refl _ _) | (with_reducible refine bal ?_ _) | (with_reducible refine Below.drew ?_) | (with_reducible refine bdn ?_ _))) hb
  clear hbX
  have DD2 : DR w2 s1 D := hr
  clear hr
  have BW2 : Below w.heap.size w w2 := btr (by repeat (first | (with_reducible exact BW1) | (with_reducible refine bal ?_ _) | (with_reducible refine Below.drew ?_) | (with_reducible refine bdn ?_ _))) hb
  clear BW1
  clear hb
  go_wp2_with fail
  refine (K3.out _).mono ?_
  rintro e w3 ⟨rfl, hb⟩
  have hbX : Below w2.heap.size w2 w3 := btr (by repeat (first | (with_reducible exact Below.refl _ _) | (with_reducible refine bal ?_ _) | (with_reducible refine Below.drew ?_) | (with_reducible refine bdn ?_ _))) hb
  have DD3 : DR w3 s1 D := DR.keep hbX DD2
  clear DD2
  clear hbX
  have BW3 : Below w.heap.size w w3 := btr (by repeat (first | (with_reducible exact BW2) | (with_reducible refine bal ?_ _) | (with_reducible refine Below.drew ?_) | (with_reducible refine bdn ?_ _))) hb
  clear BW2
  clear hb
  go_wp2
  go_ret
  exact ⟨rfl, by repeat (first | (with_reducible exact BW3) | (with_reducible refine bal ?_ _) | (with_reducible refine Below.drew ?_) | (with_reducible refine bdn ?_ _))⟩

set_option maxHeartbeats 1000000 in
set_option maxRecDepth 100000 in
theorem rcls_inf (b : Int) (g : Bool) (x0 x1 x2 x3 : Int) (sg : Bool) (hb : (b == 9218868437227405312) = true) (w : World)
    (k1 : ∀ W, Calls Tryz.prog 105 #[.int .u64 b] W fun e w' => e = .returned (.tuple #[.agg #[.bool g, .int .u64 x0, .int .u64 x1, .int .u64 x2, .int .u64 x3], .bool false]) ∧ Below W.heap.size W w')
    (k2 : ∀ W, Calls Tryz.prog 72 #[.int .u64 b] W fun e w' => e = .returned (.tuple #[.bool sg, .slice none 0 0, .int .i64 0, .bool false]) ∧ Below W.heap.size W w') :
    Calls Tryz.prog 66 #[.int .u64 b] w fun e w' => e = .returned (.int .i64 4) ∧ Below w.heap.size w w' := by
  have K1 := Lib.hid k1; clear k1
  have K2 := Lib.hid k2; clear k2
  go_enter Tryz.func66, Tryz.ntmps66
  go_wp2_with fail
  refine (K1.out _).mono ?_
  rintro e w1 ⟨rfl, hb⟩
  have BW1 : Below w.heap.size w w1 := btr (by repeat (first | (with_reducible exact Below.refl _ _) | (with_reducible refine bal ?_ _) | (with_reducible refine Below.drew ?_) | (with_reducible refine bdn ?_ _))) hb
  clear hb
  go_wp2_with fail
  refine (K2.out _).mono ?_
  rintro e w2 ⟨rfl, hb⟩
  have BW2 : Below w.heap.size w w2 := btr (by repeat (first | (with_reducible exact BW1) | (with_reducible refine bal ?_ _) | (with_reducible refine Below.drew ?_) | (with_reducible refine bdn ?_ _))) hb
  clear BW1
  clear hb
  go_wp2
  go_ret
  exact ⟨rfl, by repeat (first | (with_reducible exact BW2) | (with_reducible refine bal ?_ _) | (with_reducible refine Below.drew ?_) | (with_reducible refine bdn ?_ _))⟩

set_option maxHeartbeats 1000000 in
set_option maxRecDepth 100000 in
theorem rcls_neg (b : Int) (g : Bool) (x0 x1 x2 x3 : Int) (sg : Bool) (ha : (b == 9218868437227405312) = false) (hb : (b == 18442240474082181120) = true) (w : World)
    (k1 : ∀ W, Calls Tryz.prog 105 #[.int .u64 b] W fun e w' => e = .returned (.tuple #[.agg #[.bool g, .int .u64 x0, .int .u64 x1, .int .u64 x2, .int .u64 x3], .bool false]) ∧ Below W.heap.size W w')
    (k2 : ∀ W, Calls Tryz.prog 72 #[.int .u64 b] W fun e w' => e = .returned (.tuple #[.bool sg, .slice none 0 0, .int .i64 0, .bool false]) ∧ Below W.heap.size W w') :
    Calls Tryz.prog 66 #[.int .u64 b] w fun e w' => e = .returned (.int .i64 8) ∧ Below w.heap.size w w' := by
  have K1 := Lib.hid k1; clear k1
  have K2 := Lib.hid k2; clear k2
  go_enter Tryz.func66, Tryz.ntmps66
  go_wp2_with fail
  refine (K1.out _).mono ?_
  rintro e w1 ⟨rfl, hb⟩
  have BW1 : Below w.heap.size w w1 := btr (by repeat (first | (with_reducible exact Below.refl _ _) | (with_reducible refine bal ?_ _) | (with_reducible refine Below.drew ?_) | (with_reducible refine bdn ?_ _))) hb
  clear hb
  go_wp2_with fail
  refine (K2.out _).mono ?_
  rintro e w2 ⟨rfl, hb⟩
  have BW2 : Below w.heap.size w w2 := btr (by repeat (first | (with_reducible exact BW1) | (with_reducible refine bal ?_ _) | (with_reducible refine Below.drew ?_) | (with_reducible refine bdn ?_ _))) hb
  clear BW1
  clear hb
  go_wp2
  go_ret
  exact ⟨rfl, by repeat (first | (with_reducible exact BW2) | (with_reducible refine bal ?_ _) | (with_reducible refine Below.drew ?_) | (with_reducible refine bdn ?_ _))⟩

set_option maxHeartbeats 1000000 in
set_option maxRecDepth 100000 in
theorem rcls_nan (b : Int) (g : Bool) (x0 x1 x2 x3 : Int) (sg : Bool) (ha : (b == 9218868437227405312) = false) (hb : (b == 18442240474082181120) = false) (w : World)
    (k1 : ∀ W, Calls Tryz.prog 105 #[.int .u64 b] W fun e w' => e = .returned (.tuple #[.agg #[.bool g, .int .u64 x0, .int .u64 x1, .int .u64 x2, .int .u64 x3], .bool false]) ∧ Below W.heap.size W w')
    (k2 : ∀ W, Calls Tryz.prog 72 #[.int .u64 b] W fun e w' => e = .returned (.tuple #[.bool sg, .slice none 0 0, .int .i64 0, .bool false]) ∧ Below W.heap.size W w') :
    Calls Tryz.prog 66 #[.int .u64 b] w fun e w' => e = .returned (.int .i64 16) ∧ Below w.heap.size w w' := by
  have K1 := Lib.hid k1; clear k1
  have K2 := Lib.hid k2; clear k2
  go_enter Tryz.func66, Tryz.ntmps66
  go_wp2_with fail
  refine (K1.out _).mono ?_
  rintro e w1 ⟨rfl, hb⟩
  have BW1 : Below w.heap.size w w1 := btr (by repeat (first | (with_reducible exact Below.refl _ _) | (with_reducible refine bal ?_ _) | (with_reducible refine Below.drew ?_) | (with_reducible refine bdn ?_ _))) hb
  clear hb
  go_wp2_with fail
  refine (K2.out _).mono ?_
  rintro e w2 ⟨rfl, hb⟩
  have BW2 : Below w.heap.size w w2 := btr (by repeat (first | (with_reducible exact BW1) | (with_reducible refine bal ?_ _) | (with_reducible refine Below.drew ?_) | (with_reducible refine bdn ?_ _))) hb
  clear BW1
  clear hb
  go_wp2
  go_ret
  exact ⟨rfl, by repeat (first | (with_reducible exact BW2) | (with_reducible refine bal ?_ _) | (with_reducible refine Below.drew ?_) | (with_reducible refine bdn ?_ _))⟩

theorem rclass (b : Nat) (hb : b < 18446744073709551616) (w : World) :
    Calls Tryz.prog 66 #[.int .u64 b] w fun e w' => e = .returned (.int .i64 (cls b : Nat)) ∧ Below w.heap.size w w' := by
  have h5 : INF = 9218868437227405312 := rfl
  have hw := word_of b
  have h2 : sg b = 0 ∨ sg b = 1 := by unfold sg; omega
  have k1 := fun W => rfwhole b hb W
  have k3 := fun W => rbehind b hb W
  unfold WEnd at k1
  cases hq : whl b with
  | some n =>
    simp only [hq] at k1
    have hr : rg b < INF := by
      unfold whl at hq
      split at hq
      · rename_i hc; exact hc.1
      · cases hq
    have e : cls b = 0 := by
      unfold cls
      rw [if_neg (by omega), if_neg (by omega), hq]
      rfl
    rw [e]
    exact rcls_whole b _ _ _ _ _ w k1
  | none =>
    simp only [hq] at k1
    by_cases h : rg b < INF
    · have k2 := fun W => rparts_fin b hb h W
      have e : cls b = if beh b = 0 ∨ 64 < beh b then 2 else 1 := by
        unfold cls
        rw [if_neg (by omega), if_neg (by omega), hq]
        rfl
      rw [e]
      by_cases z : beh b = 0
      · rw [if_pos (.inl z)]
        exact rcls_big b _ _ _ _ _ _ _ _ _ (show ((beh b : Nat) : Int) < 1 by omega) w k1 k2 k3
      · by_cases z2 : 64 < beh b
        · rw [if_pos (.inr z2)]
          exact rcls_fine b _ _ _ _ _ _ _ _ _ (show (1 : Int) ≤ ((beh b : Nat) : Int) by omega) (by omega) w k1 k2 k3
        · rw [if_neg (fun hh => hh.elim z z2)]
          exact rcls_plain b _ _ _ _ _ _ _ _ _ (show (1 : Int) ≤ ((beh b : Nat) : Int) by omega) (by omega) w k1 k2 k3
    · have k2 := fun W => calls_below0 (rparts_inf b hb h W)
      by_cases hi : rg b = INF
      · have e : cls b = if sg b = 0 then 4 else 8 := by unfold cls; rw [if_neg (by omega), if_pos hi]
        rw [e]
        rcases h2 with h2 | h2
        · rw [if_pos h2]
          exact rcls_inf b _ _ _ _ _ _ (by rw [beq_iff_eq]; omega) w k1 k2
        · rw [if_neg (by omega)]
          exact rcls_neg b _ _ _ _ _ _ (by rw [beq_eq_false_iff_ne]; omega) (by rw [beq_iff_eq]; omega) w k1 k2
      · have e : cls b = 16 := by unfold cls; rw [if_pos (by omega)]
        rw [e]
        exact rcls_nan b _ _ _ _ _ _ (by rw [beq_eq_false_iff_ne]; intro h3; apply hi; unfold rg; omega) (by rw [beq_eq_false_iff_ne]; intro h3; apply hi; unfold rg; omega) w k1 k2
theorem rmay_zero (b : Int)  (w : World)
    (k1 : ∀ W, Calls Tryz.prog 66 #[.int .u64 b] W fun e w' => e = .returned (.int .i64 0) ∧ Below W.heap.size W w') :
    Calls Tryz.prog 103 #[.int .u64 b] w fun e w' => e = .returned (.bool false) ∧ Below w.heap.size w w' := by
  have K1 := Lib.hid k1; clear k1
  go_enter Tryz.func103, Tryz.ntmps103
  go_wp2_with fail
  refine (K1.out _).mono ?_
  rintro e w1 ⟨rfl, hb⟩
  have BW1 : Below w.heap.size w w1 := btr (by repeat (first | (with_reducible exact Below.refl _ _) | (with_reducible refine bal ?_ _) | (with_reducible refine Below.drew ?_) | (with_reducible refine bdn ?_ _))) hb
  clear hb
  go_wp2
  go_ret
  exact ⟨rfl, by repeat (first | (with_reducible exact BW1) | (with_reducible refine bal ?_ _) | (with_reducible refine Below.drew ?_) | (with_reducible refine bdn ?_ _))⟩

theorem rmay_nan (b : Int)  (w : World)
    (k1 : ∀ W, Calls Tryz.prog 66 #[.int .u64 b] W fun e w' => e = .returned (.int .i64 16) ∧ Below W.heap.size W w') :
    Calls Tryz.prog 103 #[.int .u64 b] w fun e w' => e = .returned (.bool (b == 9221120237041090560)) ∧ Below w.heap.size w w' := by
  have K1 := Lib.hid k1; clear k1
  go_enter Tryz.func103, Tryz.ntmps103
  go_wp2_with fail
  refine (K1.out _).mono ?_
  rintro e w1 ⟨rfl, hb⟩
  have BW1 : Below w.heap.size w w1 := btr (by repeat (first | (with_reducible exact Below.refl _ _) | (with_reducible refine bal ?_ _) | (with_reducible refine Below.drew ?_) | (with_reducible refine bdn ?_ _))) hb
  clear hb
  go_wp2
  go_ret
  exact ⟨rfl, by repeat (first | (with_reducible exact BW1) | (with_reducible refine bal ?_ _) | (with_reducible refine Below.drew ?_) | (with_reducible refine bdn ?_ _))⟩

theorem rmay_some (b : Int) (k : Int) (h0 : (k != 0) = true) (h1 : (k != 16) = true) (w : World)
    (k1 : ∀ W, Calls Tryz.prog 66 #[.int .u64 b] W fun e w' => e = .returned (.int .i64 k) ∧ Below W.heap.size W w') :
    Calls Tryz.prog 103 #[.int .u64 b] w fun e w' => e = .returned (.bool true) ∧ Below w.heap.size w w' := by
  have K1 := Lib.hid k1; clear k1
  go_enter Tryz.func103, Tryz.ntmps103
  go_wp2_with fail
  refine (K1.out _).mono ?_
  rintro e w1 ⟨rfl, hb⟩
  have BW1 : Below w.heap.size w w1 := btr (by repeat (first | (with_reducible exact Below.refl _ _) | (with_reducible refine bal ?_ _) | (with_reducible refine Below.drew ?_) | (with_reducible refine bdn ?_ _))) hb
  clear hb
  go_wp2
  go_ret
  exact ⟨rfl, by repeat (first | (with_reducible exact BW1) | (with_reducible refine bal ?_ _) | (with_reducible refine Below.drew ?_) | (with_reducible refine bdn ?_ _))⟩

theorem cls_nan {b : Nat} : cls b = 16 ↔ INF < rg b := by
  unfold cls
  constructor
  · intro h
    apply Decidable.byContradiction
    intro hn
    rw [if_neg hn] at h
    repeat (first | omega | split at h)
  · intro h; rw [if_pos h]
theorem rmayf (b : Nat) (hb : b < 18446744073709551616) (w : World) :
    Calls Tryz.prog 103 #[.int .u64 b] w fun e w' => e = .returned (.bool (mayF b)) ∧ Below w.heap.size w w' := by
  have k := fun W => rclass b hb W
  unfold mayF
  by_cases h0 : cls b = 0
  · rw [h0] at k ⊢
    exact rmay_zero b w k
  · by_cases h1 : cls b = 16
    · have hc := can_nan (cls_nan.1 h1)
      have e : (cls b != 0 && can b == b) = ((b : Int) == 9221120237041090560) := by
        rw [h1, hc, Bool.eq_iff_iff, Bool.and_eq_true, beq_iff_eq, beq_iff_eq]
        have : NANW = 9221120237041090560 := rfl
        constructor
        · rintro ⟨_, h⟩; omega
        · intro h; exact ⟨rfl, by omega⟩
      rw [e]
      rw [h1] at k
      exact rmay_nan b w k
    · have hc : can b = b := by unfold can; rw [if_neg (fun hh => h1 (cls_nan.2 hh))]
      have e : (cls b != 0 && can b == b) = true := by
        rw [hc, Bool.and_eq_true, bne_iff_ne, beq_iff_eq]
        exact ⟨h0, rfl⟩
      rw [e]
      exact rmay_some b _ (by rw [bne_iff_ne]; omega) (by rw [bne_iff_ne]; omega) w k
end Go.Proofs.YtocffoemimghhaaGreatDoor
end
