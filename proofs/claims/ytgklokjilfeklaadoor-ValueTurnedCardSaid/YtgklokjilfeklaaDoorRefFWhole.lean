/-
  The reference's Whole: the contract, for every word of 64 bits.
-/
import Derived.Test.YtgklokjilfeklaaDoorRefBehind
import Derived.Test.YtgklokjilfeklaaDoorRefWh
namespace Go.Proofs.YtgklokjilfeklaaDoor
open Go.RowKit Go.Shelf
attribute [local go_sem ↓] eql_nat neq_nat eql_int5 neq_int5

set_option maxHeartbeats 1000000 in
set_option maxRecDepth 100000 in
theorem rwhole_inf (b : Int) (g : Bool) (w : World) (hp : ∀ W, Calls Tryd.prog 65 #[.int .u64 b] W fun e w' => e = .returned (.tuple #[.bool g, .slice none 0 0, .int .i64 0, .bool false]) ∧ w' = W) :
    Calls Tryd.prog 64 #[.int .u64 b] w fun e w' => e = .returned (.tuple #[.agg #[.bool false, .int .u64 0, .int .u64 0, .int .u64 0, .int .u64 0], .bool false]) ∧ Below w.heap.size w w' := by
  have HP := Lib.hid (fun W => calls_below0 (hp W)); clear hp
  go_enter Tryd.func64, Tryd.ntmps64
  go_wp2_with fail
  refine (HP.out _).mono ?_
  rintro e w1 ⟨rfl, hb⟩
  have BW1 : Below w.heap.size w w1 := btr (by repeat (first | (with_reducible exact Below.refl _ _) | (with_reducible refine bal ?_ _) | (with_reducible refine Below.drew ?_) | (with_reducible refine bdn ?_ _))) hb
  have R1 : Row5 w1 w.heap.size (.bool false) (.int .u64 0) (.int .u64 0) (.int .u64 0) (.int .u64 0) := Row5.keep hb (by repeat (first | (with_reducible exact Row5.new _ _ _ _ _ _) | ((with_reducible refine Row5.new' _ ?_ _ _ _ _ _); (simp; done)) | (with_reducible refine Row5.alloc ?_ _) | (with_reducible refine Row5.drew ?_)))
  clear hb
  obtain ⟨Rc0, Rc1, Rc2, Rc3, Rc4⟩ := R1.parts
  obtain ⟨Rf0, Rf1, Rf2, Rf3, Rf4⟩ := R1.free
  go_wp2
  exact bodyPost_ret (v := .tuple #[.agg #[.bool false, .int .u64 0, .int .u64 0, .int .u64 0, .int .u64 0], .bool false]) (by simp [results, Tryd.results64, go_sem, Rc0, Rc1, Rc2, Rc3, Rc4]) rfl ⟨rfl, by repeat (first | (with_reducible exact BW1) | (with_reducible refine bal ?_ _) | (with_reducible refine Below.drew ?_) | (with_reducible refine bdn ?_ _) | ((with_reducible refine bsc ?_ ?_ _); rotate_left; (focus (simp only []; omega))))⟩
set_option maxHeartbeats 1000000 in
set_option maxRecDepth 100000 in
theorem rwhole_behind (b E B : Int) (g : Bool) (D L : Nat) (hlD : (digs D).length ≤ 1000) (hL : blen D = L)  (hB : 0 < B) (w : World)
    (hp : ∀ W, Calls Tryd.prog 65 #[.int .u64 b] W fun e w' => ∃ s', e = .returned (.tuple #[.bool g, s', .int .i64 E, .bool true]) ∧ DR w' s' D ∧ Below W.heap.size W w')
    (hbh : ∀ W, Calls Tryd.prog 66 #[.int .u64 b] W fun e w' => e = .returned (.int .i64 B) ∧ Below W.heap.size W w') :
    Calls Tryd.prog 64 #[.int .u64 b] w fun e w' => e = .returned (.tuple #[.agg #[.bool false, .int .u64 0, .int .u64 0, .int .u64 0, .int .u64 0], .bool false]) ∧ Below w.heap.size w w' := by
  have HP := Lib.hid hp; have HBH := Lib.hid hbh; have HLD := Lib.hid hlD; have HL := Lib.hid hL; clear hp hbh hlD hL
  go_enter Tryd.func64, Tryd.ntmps64
  go_wp2_with fail
  refine (HP.out _).mono ?_
  rintro e w1 ⟨s1, rfl, hr, hb⟩
  have hbX : Below w.heap.size w w1 := btr (by repeat (first | (with_reducible exact Below.refl _ _) | (with_reducible refine bal ?_ _) | (with_reducible refine Below.drew ?_) | (with_reducible refine bdn ?_ _))) hb
  clear hbX
  have DD1 : DR w1 s1 D := hr
  clear hr
  have BW1 : Below w.heap.size w w1 := btr (by repeat (first | (with_reducible exact Below.refl _ _) | (with_reducible refine bal ?_ _) | (with_reducible refine Below.drew ?_) | (with_reducible refine bdn ?_ _))) hb
  have R1 : Row5 w1 w.heap.size (.bool false) (.int .u64 0) (.int .u64 0) (.int .u64 0) (.int .u64 0) := Row5.keep hb (by repeat (first | (with_reducible exact Row5.new _ _ _ _ _ _) | ((with_reducible refine Row5.new' _ ?_ _ _ _ _ _); (simp; done)) | (with_reducible refine Row5.alloc ?_ _) | (with_reducible refine Row5.drew ?_)))
  clear hb
  go_wp2_with fail
  refine (HBH.out _).mono ?_
  rintro e w2 ⟨rfl, hb⟩
  have hbX : Below w1.heap.size w1 w2 := btr (by repeat (first | (with_reducible exact Below.refl _ _) | (with_reducible refine bal ?_ _) | (with_reducible refine Below.drew ?_) | (with_reducible refine bdn ?_ _))) hb
  have DD2 : DR w2 s1 D := DR.keep hbX DD1
  clear DD1
  clear hbX
  have BW2 : Below w.heap.size w w2 := btr (by repeat (first | (with_reducible exact BW1) | (with_reducible refine bal ?_ _) | (with_reducible refine Below.drew ?_) | (with_reducible refine bdn ?_ _))) hb
  have R2 : Row5 w2 w.heap.size (.bool false) (.int .u64 0) (.int .u64 0) (.int .u64 0) (.int .u64 0) := Row5.keep hb (by repeat (first | (with_reducible exact R1) | (with_reducible refine Row5.alloc ?_ _) | (with_reducible refine Row5.drew ?_)))
  clear R1
  clear BW1
  clear hb
  obtain ⟨Rc0, Rc1, Rc2, Rc3, Rc4⟩ := R2.parts
  obtain ⟨Rf0, Rf1, Rf2, Rf3, Rf4⟩ := R2.free
  go_wp2
  exact bodyPost_ret (v := .tuple #[.agg #[.bool false, .int .u64 0, .int .u64 0, .int .u64 0, .int .u64 0], .bool false]) (by simp [results, Tryd.results64, go_sem, Rc0, Rc1, Rc2, Rc3, Rc4]) rfl ⟨rfl, by repeat (first | (with_reducible exact BW2) | (with_reducible refine bal ?_ _) | (with_reducible refine Below.drew ?_) | (with_reducible refine bdn ?_ _) | ((with_reducible refine bsc ?_ ?_ _); rotate_left; (focus (simp only []; omega))))⟩
set_option maxHeartbeats 1000000 in
set_option maxRecDepth 100000 in
theorem rwhole_big (b E B : Int) (g : Bool) (D L : Nat) (hlD : (digs D).length ≤ 1000) (hL : blen D = L)  (hE0 : -1074 ≤ E) (hE1 : E ≤ 1000) (hL1 : L ≤ 64) (hB0 : B = 0) (hbig : 256 < (L : Int) + E) (w : World)
    (hp : ∀ W, Calls Tryd.prog 65 #[.int .u64 b] W fun e w' => ∃ s', e = .returned (.tuple #[.bool g, s', .int .i64 E, .bool true]) ∧ DR w' s' D ∧ Below W.heap.size W w')
    (hbh : ∀ W, Calls Tryd.prog 66 #[.int .u64 b] W fun e w' => e = .returned (.int .i64 B) ∧ Below W.heap.size W w') :
    Calls Tryd.prog 64 #[.int .u64 b] w fun e w' => e = .returned (.tuple #[.agg #[.bool false, .int .u64 0, .int .u64 0, .int .u64 0, .int .u64 0], .bool false]) ∧ Below w.heap.size w w' := by
  have HP := Lib.hid hp; have HBH := Lib.hid hbh; have HLD := Lib.hid hlD; have HL := Lib.hid hL; clear hp hbh hlD hL
  subst hB0
  go_enter Tryd.func64, Tryd.ntmps64
  go_wp2_with fail
  refine (HP.out _).mono ?_
  rintro e w1 ⟨s1, rfl, hr, hb⟩
  have hbX : Below w.heap.size w w1 := btr (by repeat (first | (with_reducible exact Below.refl _ _) | (with_reducible refine bal ?_ _) | (with_reducible refine Below.drew ?_) | (with_reducible refine bdn ?_ _))) hb
  clear hbX
  have DD1 : DR w1 s1 D := hr
  clear hr
  have BW1 : Below w.heap.size w w1 := btr (by repeat (first | (with_reducible exact Below.refl _ _) | (with_reducible refine bal ?_ _) | (with_reducible refine Below.drew ?_) | (with_reducible refine bdn ?_ _))) hb
  have R1 : Row5 w1 w.heap.size (.bool false) (.int .u64 0) (.int .u64 0) (.int .u64 0) (.int .u64 0) := Row5.keep hb (by repeat (first | (with_reducible exact Row5.new _ _ _ _ _ _) | ((with_reducible refine Row5.new' _ ?_ _ _ _ _ _); (simp; done)) | (with_reducible refine Row5.alloc ?_ _) | (with_reducible refine Row5.drew ?_)))
  clear hb
  go_wp2_with fail
  refine (HBH.out _).mono ?_
  rintro e w2 ⟨rfl, hb⟩
  have hbX : Below w1.heap.size w1 w2 := btr (by repeat (first | (with_reducible exact Below.refl _ _) | (with_reducible refine bal ?_ _) | (with_reducible refine Below.drew ?_) | (with_reducible refine bdn ?_ _))) hb
  have DD2 : DR w2 s1 D := DR.keep hbX DD1
  clear DD1
  clear hbX
  have BW2 : Below w.heap.size w w2 := btr (by repeat (first | (with_reducible exact BW1) | (with_reducible refine bal ?_ _) | (with_reducible refine Below.drew ?_) | (with_reducible refine bdn ?_ _))) hb
  have R2 : Row5 w2 w.heap.size (.bool false) (.int .u64 0) (.int .u64 0) (.int .u64 0) (.int .u64 0) := Row5.keep hb (by repeat (first | (with_reducible exact R1) | (with_reducible refine Row5.alloc ?_ _) | (with_reducible refine Row5.drew ?_)))
  clear R1
  clear BW1
  clear hb
  have hln := fun (W : World) (hW : Below w2.heap.size w2 W) => rlen (w := W) (DR.keep hW DD2) HLD.out
  rw [HL.out] at hln
  have HLN := Lib.hid hln; clear hln
  go_wp2_with fail
  refine (calls_below0 (HLN.out _ (by repeat (first | (with_reducible exact Below.refl _ _) | (with_reducible refine bal ?_ _) | (with_reducible refine Below.drew ?_) | (with_reducible refine bdn ?_ _))))).mono ?_
  rintro e w3 ⟨rfl, hb⟩
  have hbX : Below w2.heap.size w2 w3 := btr (by repeat (first | (with_reducible exact Below.refl _ _) | (with_reducible refine bal ?_ _) | (with_reducible refine Below.drew ?_) | (with_reducible refine bdn ?_ _))) hb
  have DD3 : DR w3 s1 D := DR.keep hbX DD2
  clear DD2
  clear hbX
  have BW3 : Below w.heap.size w w3 := btr (by repeat (first | (with_reducible exact BW2) | (with_reducible refine bal ?_ _) | (with_reducible refine Below.drew ?_) | (with_reducible refine bdn ?_ _))) hb
  have R3 : Row5 w3 w.heap.size (.bool false) (.int .u64 0) (.int .u64 0) (.int .u64 0) (.int .u64 0) := Row5.keep hb (by repeat (first | (with_reducible exact R2) | (with_reducible refine Row5.alloc ?_ _) | (with_reducible refine Row5.drew ?_)))
  clear R2
  clear BW2
  clear hb
  clear HLN
  obtain ⟨Rc0, Rc1, Rc2, Rc3, Rc4⟩ := R3.parts
  obtain ⟨Rf0, Rf1, Rf2, Rf3, Rf4⟩ := R3.free
  go_wp2
  exact bodyPost_ret (v := .tuple #[.agg #[.bool false, .int .u64 0, .int .u64 0, .int .u64 0, .int .u64 0], .bool false]) (by simp [results, Tryd.results64, go_sem, Rc0, Rc1, Rc2, Rc3, Rc4]) rfl ⟨rfl, by repeat (first | (with_reducible exact BW3) | (with_reducible refine bal ?_ _) | (with_reducible refine Below.drew ?_) | (with_reducible refine bdn ?_ _) | ((with_reducible refine bsc ?_ ?_ _); rotate_left; (focus (simp only []; omega))))⟩
set_option maxHeartbeats 1000000 in
set_option maxRecDepth 100000 in
theorem rwhole_zero (b E B : Int) (g : Bool) (D L : Nat) (hlD : (digs D).length ≤ 1000) (hL : blen D = L)  (hE0 : -1074 ≤ E) (hE1 : E ≤ 1000) (hL1 : L ≤ 64) (hB0 : B = 0) (hz : L = 0) (hsm : (L : Int) + E ≤ 256) (w : World)
    (hp : ∀ W, Calls Tryd.prog 65 #[.int .u64 b] W fun e w' => ∃ s', e = .returned (.tuple #[.bool g, s', .int .i64 E, .bool true]) ∧ DR w' s' D ∧ Below W.heap.size W w')
    (hbh : ∀ W, Calls Tryd.prog 66 #[.int .u64 b] W fun e w' => e = .returned (.int .i64 B) ∧ Below W.heap.size W w') :
    Calls Tryd.prog 64 #[.int .u64 b] w fun e w' => e = .returned (.tuple #[.agg #[.bool false, .int .u64 0, .int .u64 0, .int .u64 0, .int .u64 0], .bool true]) ∧ Below w.heap.size w w' := by
  have HP := Lib.hid hp; have HBH := Lib.hid hbh; have HLD := Lib.hid hlD; have HL := Lib.hid hL; clear hp hbh hlD hL
  subst hB0; subst hz
  go_enter Tryd.func64, Tryd.ntmps64
  go_wp2_with fail
  refine (HP.out _).mono ?_
  rintro e w1 ⟨s1, rfl, hr, hb⟩
  have hbX : Below w.heap.size w w1 := btr (by repeat (first | (with_reducible exact Below.refl _ _) | (with_reducible refine bal ?_ _) | (with_reducible refine Below.drew ?_) | (with_reducible refine bdn ?_ _))) hb
  clear hbX
  have DD1 : DR w1 s1 D := hr
  clear hr
  have BW1 : Below w.heap.size w w1 := btr (by repeat (first | (with_reducible exact Below.refl _ _) | (with_reducible refine bal ?_ _) | (with_reducible refine Below.drew ?_) | (with_reducible refine bdn ?_ _))) hb
  have R1 : Row5 w1 w.heap.size (.bool false) (.int .u64 0) (.int .u64 0) (.int .u64 0) (.int .u64 0) := Row5.keep hb (by repeat (first | (with_reducible exact Row5.new _ _ _ _ _ _) | ((with_reducible refine Row5.new' _ ?_ _ _ _ _ _); (simp; done)) | (with_reducible refine Row5.alloc ?_ _) | (with_reducible refine Row5.drew ?_)))
  clear hb
  go_wp2_with fail
  refine (HBH.out _).mono ?_
  rintro e w2 ⟨rfl, hb⟩
  have hbX : Below w1.heap.size w1 w2 := btr (by repeat (first | (with_reducible exact Below.refl _ _) | (with_reducible refine bal ?_ _) | (with_reducible refine Below.drew ?_) | (with_reducible refine bdn ?_ _))) hb
  have DD2 : DR w2 s1 D := DR.keep hbX DD1
  clear DD1
  clear hbX
  have BW2 : Below w.heap.size w w2 := btr (by repeat (first | (with_reducible exact BW1) | (with_reducible refine bal ?_ _) | (with_reducible refine Below.drew ?_) | (with_reducible refine bdn ?_ _))) hb
  have R2 : Row5 w2 w.heap.size (.bool false) (.int .u64 0) (.int .u64 0) (.int .u64 0) (.int .u64 0) := Row5.keep hb (by repeat (first | (with_reducible exact R1) | (with_reducible refine Row5.alloc ?_ _) | (with_reducible refine Row5.drew ?_)))
  clear R1
  clear BW1
  clear hb
  have hln := fun (W : World) (hW : Below w2.heap.size w2 W) => rlen (w := W) (DR.keep hW DD2) HLD.out
  rw [HL.out] at hln
  have HLN := Lib.hid hln; clear hln
  go_wp2_with fail
  refine (calls_below0 (HLN.out _ (by repeat (first | (with_reducible exact Below.refl _ _) | (with_reducible refine bal ?_ _) | (with_reducible refine Below.drew ?_) | (with_reducible refine bdn ?_ _))))).mono ?_
  rintro e w3 ⟨rfl, hb⟩
  have hbX : Below w2.heap.size w2 w3 := btr (by repeat (first | (with_reducible exact Below.refl _ _) | (with_reducible refine bal ?_ _) | (with_reducible refine Below.drew ?_) | (with_reducible refine bdn ?_ _))) hb
  have DD3 : DR w3 s1 D := DR.keep hbX DD2
  clear DD2
  clear hbX
  have BW3 : Below w.heap.size w w3 := btr (by repeat (first | (with_reducible exact BW2) | (with_reducible refine bal ?_ _) | (with_reducible refine Below.drew ?_) | (with_reducible refine bdn ?_ _))) hb
  have R3 : Row5 w3 w.heap.size (.bool false) (.int .u64 0) (.int .u64 0) (.int .u64 0) (.int .u64 0) := Row5.keep hb (by repeat (first | (with_reducible exact R2) | (with_reducible refine Row5.alloc ?_ _) | (with_reducible refine Row5.drew ?_)))
  clear R2
  clear BW2
  clear hb
  clear HLN
  have hln := fun (W : World) (hW : Below w3.heap.size w3 W) => rlen (w := W) (DR.keep hW DD3) HLD.out
  rw [HL.out] at hln
  have HLN := Lib.hid hln; clear hln
  go_wp2_with fail
  refine (calls_below0 (HLN.out _ (by repeat (first | (with_reducible exact Below.refl _ _) | (with_reducible refine bal ?_ _) | (with_reducible refine Below.drew ?_) | (with_reducible refine bdn ?_ _))))).mono ?_
  rintro e w4 ⟨rfl, hb⟩
  have hbX : Below w3.heap.size w3 w4 := btr (by repeat (first | (with_reducible exact Below.refl _ _) | (with_reducible refine bal ?_ _) | (with_reducible refine Below.drew ?_) | (with_reducible refine bdn ?_ _))) hb
  have DD4 : DR w4 s1 D := DR.keep hbX DD3
  clear DD3
  clear hbX
  have BW4 : Below w.heap.size w w4 := btr (by repeat (first | (with_reducible exact BW3) | (with_reducible refine bal ?_ _) | (with_reducible refine Below.drew ?_) | (with_reducible refine bdn ?_ _))) hb
  have R4 : Row5 w4 w.heap.size (.bool false) (.int .u64 0) (.int .u64 0) (.int .u64 0) (.int .u64 0) := Row5.keep hb (by repeat (first | (with_reducible exact R3) | (with_reducible refine Row5.alloc ?_ _) | (with_reducible refine Row5.drew ?_)))
  clear R3
  clear BW3
  clear hb
  clear HLN
  obtain ⟨Rc0, Rc1, Rc2, Rc3, Rc4⟩ := R4.parts
  obtain ⟨Rf0, Rf1, Rf2, Rf3, Rf4⟩ := R4.free
  go_wp2
  exact bodyPost_ret (v := .tuple #[.agg #[.bool false, .int .u64 0, .int .u64 0, .int .u64 0, .int .u64 0], .bool true]) (by simp [results, Tryd.results64, go_sem, Rc0, Rc1, Rc2, Rc3, Rc4]) rfl ⟨rfl, by repeat (first | (with_reducible exact BW4) | (with_reducible refine bal ?_ _) | (with_reducible refine Below.drew ?_) | (with_reducible refine bdn ?_ _) | ((with_reducible refine bsc ?_ ?_ _); rotate_left; (focus (simp only []; omega))))⟩
set_option maxHeartbeats 1000000 in
set_option maxRecDepth 100000 in
theorem rwhole_ok (b E B : Int) (g : Bool) (D L : Nat) (hlD : (digs D).length ≤ 1000) (hL : blen D = L)  (hE0 : -1074 ≤ E) (hE1 : E ≤ 1000) (hL1 : L ≤ 64) (hB0 : B = 0) (hz : L ≠ 0) (hsm : (L : Int) + E ≤ 256) (V : Nat) (hV : shv D E = V) (hV1 : V < 2 ^ 256) (Y : Int) (hY : (if g then -(V : Int) else V) = Y) (w : World)
    (hp : ∀ W, Calls Tryd.prog 65 #[.int .u64 b] W fun e w' => ∃ s', e = .returned (.tuple #[.bool g, s', .int .i64 E, .bool true]) ∧ DR w' s' D ∧ Below W.heap.size W w')
    (hbh : ∀ W, Calls Tryd.prog 66 #[.int .u64 b] W fun e w' => e = .returned (.int .i64 B) ∧ Below W.heap.size W w') :
    Calls Tryd.prog 64 #[.int .u64 b] w fun e w' => e = .returned (.tuple #[Iz Y, .bool true]) ∧ Below w.heap.size w w' := by
  have HP := Lib.hid hp; have HBH := Lib.hid hbh; have HLD := Lib.hid hlD; have HL := Lib.hid hL; clear hp hbh hlD hL
  subst hB0
  have hz2 : ((L : Int) == 0) = false := by rw [beq_eq_false_iff_ne]; omega
  have HV := Lib.hid hV; have HV1 := Lib.hid hV1; have HYY := Lib.hid hY; clear hz hV hV1 hY
  go_enter Tryd.func64, Tryd.ntmps64
  go_wp2_with fail
  refine (HP.out _).mono ?_
  rintro e w1 ⟨s1, rfl, hr, hb⟩
  have hbX : Below w.heap.size w w1 := btr (by repeat (first | (with_reducible exact Below.refl _ _) | (with_reducible refine bal ?_ _) | (with_reducible refine Below.drew ?_) | (with_reducible refine bdn ?_ _))) hb
  clear hbX
  have DD1 : DR w1 s1 D := hr
  clear hr
  have BW1 : Below w.heap.size w w1 := btr (by repeat (first | (with_reducible exact Below.refl _ _) | (with_reducible refine bal ?_ _) | (with_reducible refine Below.drew ?_) | (with_reducible refine bdn ?_ _))) hb
  have R1 : Row5 w1 w.heap.size (.bool false) (.int .u64 0) (.int .u64 0) (.int .u64 0) (.int .u64 0) := Row5.keep hb (by repeat (first | (with_reducible exact Row5.new _ _ _ _ _ _) | ((with_reducible refine Row5.new' _ ?_ _ _ _ _ _); (simp; done)) | (with_reducible refine Row5.alloc ?_ _) | (with_reducible refine Row5.drew ?_)))
  clear hb
  go_wp2_with fail
  refine (HBH.out _).mono ?_
  rintro e w2 ⟨rfl, hb⟩
  have hbX : Below w1.heap.size w1 w2 := btr (by repeat (first | (with_reducible exact Below.refl _ _) | (with_reducible refine bal ?_ _) | (with_reducible refine Below.drew ?_) | (with_reducible refine bdn ?_ _))) hb
  have DD2 : DR w2 s1 D := DR.keep hbX DD1
  clear DD1
  clear hbX
  have BW2 : Below w.heap.size w w2 := btr (by repeat (first | (with_reducible exact BW1) | (with_reducible refine bal ?_ _) | (with_reducible refine Below.drew ?_) | (with_reducible refine bdn ?_ _))) hb
  have R2 : Row5 w2 w.heap.size (.bool false) (.int .u64 0) (.int .u64 0) (.int .u64 0) (.int .u64 0) := Row5.keep hb (by repeat (first | (with_reducible exact R1) | (with_reducible refine Row5.alloc ?_ _) | (with_reducible refine Row5.drew ?_)))
  clear R1
  clear BW1
  clear hb
  have hln := fun (W : World) (hW : Below w2.heap.size w2 W) => rlen (w := W) (DR.keep hW DD2) HLD.out
  rw [HL.out] at hln
  have HLN := Lib.hid hln; clear hln
  go_wp2_with fail
  refine (calls_below0 (HLN.out _ (by repeat (first | (with_reducible exact Below.refl _ _) | (with_reducible refine bal ?_ _) | (with_reducible refine Below.drew ?_) | (with_reducible refine bdn ?_ _))))).mono ?_
  rintro e w3 ⟨rfl, hb⟩
  have hbX : Below w2.heap.size w2 w3 := btr (by repeat (first | (with_reducible exact Below.refl _ _) | (with_reducible refine bal ?_ _) | (with_reducible refine Below.drew ?_) | (with_reducible refine bdn ?_ _))) hb
  have DD3 : DR w3 s1 D := DR.keep hbX DD2
  clear DD2
  clear hbX
  have BW3 : Below w.heap.size w w3 := btr (by repeat (first | (with_reducible exact BW2) | (with_reducible refine bal ?_ _) | (with_reducible refine Below.drew ?_) | (with_reducible refine bdn ?_ _))) hb
  have R3 : Row5 w3 w.heap.size (.bool false) (.int .u64 0) (.int .u64 0) (.int .u64 0) (.int .u64 0) := Row5.keep hb (by repeat (first | (with_reducible exact R2) | (with_reducible refine Row5.alloc ?_ _) | (with_reducible refine Row5.drew ?_)))
  clear R2
  clear BW2
  clear hb
  clear HLN
  have hln := fun (W : World) (hW : Below w3.heap.size w3 W) => rlen (w := W) (DR.keep hW DD3) HLD.out
  rw [HL.out] at hln
  have HLN := Lib.hid hln; clear hln
  go_wp2_with fail
  refine (calls_below0 (HLN.out _ (by repeat (first | (with_reducible exact Below.refl _ _) | (with_reducible refine bal ?_ _) | (with_reducible refine Below.drew ?_) | (with_reducible refine bdn ?_ _))))).mono ?_
  rintro e w4 ⟨rfl, hb⟩
  have hbX : Below w3.heap.size w3 w4 := btr (by repeat (first | (with_reducible exact Below.refl _ _) | (with_reducible refine bal ?_ _) | (with_reducible refine Below.drew ?_) | (with_reducible refine bdn ?_ _))) hb
  have DD4 : DR w4 s1 D := DR.keep hbX DD3
  clear DD3
  clear hbX
  have BW4 : Below w.heap.size w w4 := btr (by repeat (first | (with_reducible exact BW3) | (with_reducible refine bal ?_ _) | (with_reducible refine Below.drew ?_) | (with_reducible refine bdn ?_ _))) hb
  have R4 : Row5 w4 w.heap.size (.bool false) (.int .u64 0) (.int .u64 0) (.int .u64 0) (.int .u64 0) := Row5.keep hb (by repeat (first | (with_reducible exact R3) | (with_reducible refine Row5.alloc ?_ _) | (with_reducible refine Row5.drew ?_)))
  clear R3
  clear BW3
  clear hb
  clear HLN
  go_wp2_with fail
  refine (rshift (DR.keep (by repeat (first | (with_reducible exact Below.refl _ _) | (with_reducible refine bal ?_ _) | (with_reducible refine Below.drew ?_) | (with_reducible refine bdn ?_ _))) DD4) HLD.out E (by omega) (by omega)).mono ?_
  rintro e w5 ⟨s2, rfl, hr, hb⟩
  have hbX : Below w4.heap.size w4 w5 := btr (by repeat (first | (with_reducible exact Below.refl _ _) | (with_reducible refine bal ?_ _) | (with_reducible refine Below.drew ?_) | (with_reducible refine bdn ?_ _))) hb
  have DD5 : DR w5 s1 D := DR.keep hbX DD4
  clear DD4
  clear hbX
  have DV5 : DR w5 s2 (shv D E) := hr
  clear hr
  have BW5 : Below w.heap.size w w5 := btr (by repeat (first | (with_reducible exact BW4) | (with_reducible refine bal ?_ _) | (with_reducible refine Below.drew ?_) | (with_reducible refine bdn ?_ _))) hb
  have R5 : Row5 w5 w.heap.size (.bool false) (.int .u64 0) (.int .u64 0) (.int .u64 0) (.int .u64 0) := Row5.keep hb (by repeat (first | (with_reducible exact R4) | (with_reducible refine Row5.alloc ?_ _) | (with_reducible refine Row5.drew ?_)))
  clear R4
  clear BW4
  clear hb
  have hwh := rwh (w := w5) g DV5
  rw [HV.out, if_pos HV1.out, HYY.out] at hwh
  have HWH := Lib.hid hwh; clear hwh
  go_wp2_with fail
  refine (HWH.out).mono ?_
  rintro e w6 ⟨rfl, hb⟩
  have hbX : Below w5.heap.size w5 w6 := btr (by repeat (first | (with_reducible exact Below.refl _ _) | (with_reducible refine bal ?_ _) | (with_reducible refine Below.drew ?_) | (with_reducible refine bdn ?_ _))) hb
  have DD6 : DR w6 s1 D := DR.keep hbX DD5
  have DV6 : DR w6 s2 (shv D E) := DR.keep hbX DV5
  clear DD5 DV5
  clear hbX
  have BW6 : Below w.heap.size w w6 := btr (by repeat (first | (with_reducible exact BW5) | (with_reducible refine bal ?_ _) | (with_reducible refine Below.drew ?_) | (with_reducible refine bdn ?_ _))) hb
  have R6 : Row5 w6 w.heap.size (.bool false) (.int .u64 0) (.int .u64 0) (.int .u64 0) (.int .u64 0) := Row5.keep hb (by repeat (first | (with_reducible exact R5) | (with_reducible refine Row5.alloc ?_ _) | (with_reducible refine Row5.drew ?_)))
  clear R5
  clear BW5
  clear hb
  obtain ⟨Rc0, Rc1, Rc2, Rc3, Rc4⟩ := R6.parts
  obtain ⟨Rf0, Rf1, Rf2, Rf3, Rf4⟩ := R6.free
  go_wp2
  exact bodyPost_ret (v := .tuple #[Iz Y, .bool true]) (by simp [results, Tryd.results64, go_sem, Rc0, Rc1, Rc2, Rc3, Rc4]) rfl ⟨rfl, by repeat (first | (with_reducible exact BW6) | (with_reducible refine bal ?_ _) | (with_reducible refine Below.drew ?_) | (with_reducible refine bdn ?_ _) | ((with_reducible refine bsc ?_ ?_ _); rotate_left; (focus (simp only []; omega))))⟩
theorem blen_pow {o t : Nat} (h : o ≠ 0) : blen (o * 2 ^ t) = blen o + t := by
  have hp := Nat.two_pow_pos t
  have h2 : o * 2 ^ t ≠ 0 := Nat.mul_ne_zero h (by omega)
  unfold blen
  rw [if_neg h, if_neg h2, lg_mul o t h]
  omega
theorem wend_no {b : Nat} (h : whl b = none) : WEnd b = .tuple #[Z5, .bool false] := by unfold WEnd; rw [h]
theorem wend_nought {b : Nat} (h : whl b = some 0) : WEnd b = .tuple #[Z5, .bool true] := by
  unfold WEnd
  rw [h]
  have e0 : (if sg b = 1 then -((0 : Nat) : Int) else ((0 : Nat) : Int)) = 0 := by split <;> rfl
  simp only [e0]
  rw [← Iz_zero]
theorem rfwhole (b : Nat) (hb : b < 18446744073709551616) (w : World) :
    Calls Tryd.prog 64 #[.int .u64 b] w fun e w' => e = .returned (WEnd b) ∧ Below w.heap.size w w' := by
  have he := ex_bounds b
  by_cases h : rg b < INF
  · have hp := fun W => rparts_fin b hb h W
    have hbh := fun W => rbehind b hb W
    have hdl := dg_lt b
    have hL1 : blen (dg b) ≤ 64 := blen_le (k := 64) hdl
    by_cases hB : 0 < beh b
    · have hn : whl b = none := by
        unfold beh at hB
        rw [if_pos h] at hB
        unfold whl
        rw [if_neg (fun hh => by have := hh.2.1; omega)]
      rw [wend_no hn]
      exact rwhole_behind b _ _ _ _ _ (dg_len b) rfl (by omega) w hp hbh
    · have hB0 : ((beh b : Nat) : Int) = 0 := by omega
      have hpw : 0 ≤ pw b := by
        unfold beh at hB
        rw [if_pos h] at hB
        omega
      by_cases h0 : dg b = 0
      · have hn : whl b = some 0 := by
          unfold whl
          have e1 : od b = 0 := by unfold od; rw [if_pos h0]
          have e2 : pw b = 0 := by unfold pw; rw [if_pos h0]
          rw [e1, e2, if_pos ⟨h, by omega, by decide⟩]
          rfl
        have hE : ex b = -1074 := by
          have hF : b / 4503599627370496 % 2048 = 0 := by
            apply Decidable.byContradiction
            intro hc; unfold dg at h0; rw [if_neg hc] at h0; omega
          unfold ex; rw [if_pos hF]
        have hL : blen (dg b) = 0 := by rw [h0]; rfl
        rw [wend_nought hn]
        exact rwhole_zero b _ _ _ _ _ (dg_len b) rfl (by omega) (by omega) hL1 hB0 hL (by omega) w hp hbh
      · obtain ⟨m, hm, ht⟩ := ctz_word h0 hdl
        have hpe := pw_ex h0
        obtain ⟨t, et⟩ : ∃ t, t = Lib.ctz 64 (dg b) := ⟨_, rfl⟩
        rw [← et] at hm ht hpe
        have hod : od b = 2 * m + 1 := by
          unfold od
          rw [if_neg h0, ← et, hm, Nat.mul_div_cancel_left _ (Nat.two_pow_pos t)]
        have ho0 : 2 * m + 1 ≠ 0 := by omega
        have hL : blen (dg b) = blen (2 * m + 1) + t := by rw [hm, Nat.mul_comm, blen_pow ho0]
        obtain ⟨p, hpn⟩ := Int.eq_ofNat_of_zero_le hpw
        have hV : shv (dg b) (ex b) = (2 * m + 1) * 2 ^ p := by
          unfold shv
          by_cases hE : 0 ≤ ex b
          · rw [if_pos hE, hm, Nat.mul_comm (2 ^ t), Nat.mul_assoc, ← Nat.pow_add]
            congr 2
            omega
          · rw [if_neg hE]
            have e2 : dg b = 2 ^ (-(ex b)).toNat * ((2 * m + 1) * 2 ^ p) := by
              rw [hm, Nat.mul_comm (2 ^ t), Nat.mul_left_comm, ← Nat.pow_add]
              congr 2
              omega
            rw [e2, Nat.mul_div_cancel_left _ (Nat.two_pow_pos _)]
        have hfit := mul_pow_lt (x := 2 * m + 1) (k := p) ho0
        by_cases hbig : 256 < ((blen (dg b) : Nat) : Int) + ex b
        · have hn : whl b = none := by
            unfold whl
            rw [hod, hpn, Int.toNat_natCast, if_neg (fun hh => by have := hfit.1 hh.2.2; omega)]
          rw [wend_no hn]
          exact rwhole_big b _ _ _ _ _ (dg_len b) rfl (by omega) (by omega) hL1 hB0 hbig w hp hbh
        · have hV1 : (2 * m + 1) * 2 ^ p < 2 ^ 256 := hfit.2 (by omega)
          have hn : whl b = some ((2 * m + 1) * 2 ^ p) := by
            unfold whl
            rw [hod, hpn, Int.toNat_natCast, if_pos ⟨h, by omega, hV1⟩]
          have e : WEnd b = .tuple #[Iz (if (sg b == 1) then -(((2 * m + 1) * 2 ^ p : Nat) : Int) else (((2 * m + 1) * 2 ^ p : Nat) : Int)), .bool true] := by
            unfold WEnd
            rw [hn]
            have h2 : sg b = 0 ∨ sg b = 1 := by unfold sg; omega
            rcases h2 with h2 | h2 <;> rw [h2] <;> rfl
          rw [e]
          exact rwhole_ok b _ _ _ _ _ (dg_len b) rfl (by omega) (by omega) hL1 hB0 (by have := (blen_spec h0).1; omega) (by omega) _ hV hV1 _ rfl w hp hbh
  · have hn : whl b = none := by unfold whl; rw [if_neg (fun hh => h hh.1)]
    rw [wend_no hn]
    exact rwhole_inf b _ w (fun W => rparts_inf b hb h W)
end Go.Proofs.YtgklokjilfeklaaDoor
