/-
  entrepotlaw4.told: true.
-/
import Derived.Test.YtjdogiehcgfmjaaGreatDoorGP
namespace Go.Proofs.YtjdogiehcgfmjaaGreatDoor
open Go.RowKit Go.Shelf
attribute [local go_sem ↓] eql_nat

theorem tt1 : dpans [49,101,50] = .tuple #[VV 3 false 100 0, .int .i64 0] := by
  rw [show dpans [49,101,50] = dpv false 1 2 from by
    unfold dpans
    rw [if_neg (by decide), show rd [49,101,50] = some (false, [49], 2) from by decide +kernel]
    simp only
    rw [if_neg (by decide), show parseN (str [49]) = some 1 from by decide +kernel]]
  unfold dpv
  rw [if_pos (by decide), if_pos (by decide +kernel), show (1 : Nat) * 10 ^ (2 : Int).toNat = 100 from by decide +kernel]
theorem tt2 : dpans [48,46,49] = ER 5 := by
  rw [show dpans [48,46,49] = dpv false 1 (-1) from by
    unfold dpans
    rw [if_neg (by decide), show rd [48,46,49] = some (false, [49], -1) from by decide +kernel]
    simp only
    rw [if_neg (by decide), show parseN (str [49]) = some 1 from by decide +kernel]]
  unfold dpv
  rw [if_neg (by decide), show plv false 1 (-1) = none from by unfold plv; exact if_neg (fun h => absurd h.1 (by decide +kernel))]
theorem tt3 : dpans [45,48,46,53,101,48] = .tuple #[VV 4 false 0 13826050856027422720, .int .i64 0] := by
  rw [show dpans [45,48,46,53,101,48] = dpv true 5 (-1) from by
    unfold dpans
    rw [if_neg (by decide), show rd [45,48,46,53,101,48] = some (true, [53], -1) from by decide +kernel]
    simp only
    rw [if_neg (by decide), show parseN (str [53]) = some 5 from by decide +kernel]]
  unfold dpv
  rw [if_neg (by decide), show plv true 5 (-1) = some 13826050856027422720 from by decide +kernel]
  rfl
theorem tt4 : dpans [48,49] = ER 3 := by
  unfold dpans
  rw [if_neg (by decide), show rd [48,49] = none from by decide +kernel]
theorem tt5 : prans 13826050856027422720 = .tuple #[.string ⟨#[45,48,46,53]⟩, .bool true] := by
  unfold prans
  rw [if_pos (by decide +kernel), show ptx 13826050856027422720 = [45,48,46,53] from by decide +kernel]
  rfl

abbrev VX (k : Int) (n y : Int) : Value := .agg #[.int .i64 k, .bool false, .int .u64 n, .int .u64 0, .int .u64 0, .int .u64 0, .int .u64 y, .string ⟨#[]⟩, .slice none 0 0, .slice none 0 0]
theorem vx_of (k : Int) (n : Nat) (h : n < 18446744073709551616) (y : Int) : VV k false n y = VX k (n : Int) y := by
  obtain ⟨l0, l1, l2, l3⟩ := lb_small (v := (n : Int)) (by omega) (by omega)
  rw [Int.natAbs_natCast] at l0 l1 l2 l3
  show Value.agg #[_, _, .int .u64 (lb 0 n), .int .u64 (lb 1 n), .int .u64 (lb 2 n), .int .u64 (lb 3 n), _, _, _, _] = _
  rw [l0, l1, l2, l3]
set_option maxHeartbeats 4000000 in
set_option maxRecDepth 4000000 in
theorem told4_core (w : World)
    (k1 : ∀ W, Below w.heap.size w W → Calls Tryz.prog 13 #[.string ⟨#[49, 101, 50]⟩] W fun e w' => e = .returned (.tuple #[VX 3 100 0, .int .i64 0]) ∧ Below W.heap.size W w')
    (k2 : ∀ W, Below w.heap.size w W → Calls Tryz.prog 13 #[.string ⟨#[48, 46, 49]⟩] W fun e w' => e = .returned (.tuple #[VX 0 0 0, .int .i64 5]) ∧ Below W.heap.size W w')
    (k3 : ∀ W, Below w.heap.size w W → Calls Tryz.prog 13 #[.string ⟨#[45, 48, 46, 53, 101, 48]⟩] W fun e w' => e = .returned (.tuple #[VX 4 0 13826050856027422720, .int .i64 0]) ∧ Below W.heap.size W w')
    (k4 : ∀ W, Below w.heap.size w W → Calls Tryz.prog 31 #[.int .u64 13826050856027422720] W fun e w' => e = .returned (.tuple #[.string ⟨#[45, 48, 46, 53]⟩, .bool true]) ∧ Below W.heap.size W w')
    (k5 : ∀ W, Below w.heap.size w W → Calls Tryz.prog 13 #[.string ⟨#[48, 49]⟩] W fun e w' => e = .returned (.tuple #[VX 0 0 0, .int .i64 3]) ∧ Below W.heap.size W w') :
    Calls Tryz.prog 12 #[] w fun e w' => e = .returned (.bool true) ∧ Below w.heap.size w w' := by
  have K1 := Lib.hid k1; have K2 := Lib.hid k2; have K3 := Lib.hid k3; have K4 := Lib.hid k4; have K5 := Lib.hid k5; clear k1 k2 k3 k4 k5
  go_enter Tryz.func12, Tryz.ntmps12
  go_wp2_with fail
  (with_reducible refine (K1.out _ (Below.refl _ _)).mono ?_)
  rintro e w1 ⟨rfl, hb1⟩
  have A1 := RowV.new w1 (.int .i64 3) (.bool false) (.int .u64 100) (.int .u64 0) (.int .u64 0) (.int .u64 0) (.int .u64 0) (.string ⟨#[]⟩) (.slice none 0 0) (.slice none 0 0)
  go_wp2_with fail
  (with_reducible refine (K2.out _ (bal hb1 _)).mono ?_)
  rintro e w2 ⟨rfl, hb⟩
  have A2 := RowV.keep hb A1
  have hb2 := btr (bal hb1 _) hb
  have l2 := A2.lt
  clear hb hb1 A1
  go_wp2_with fail
  (with_reducible refine (K3.out _ (bal hb2 _)).mono ?_)
  rintro e w3 ⟨rfl, hb⟩
  have A3 := RowV.keep hb (RowV.alloc A2 _)
  have hb3 := btr (bal hb2 _) hb
  have l3 := A3.lt
  have B3 := RowV.alloc A3 (.cells #[.int .i64 4, .bool false, .int .u64 0, .int .u64 0, .int .u64 0, .int .u64 0, .int .u64 13826050856027422720, .string ⟨#[]⟩, .slice none 0 0, .slice none 0 0] 31)
  have C3 := RowV.new w3 (.int .i64 4) (.bool false) (.int .u64 0) (.int .u64 0) (.int .u64 0) (.int .u64 0) (.int .u64 13826050856027422720) (.string ⟨#[]⟩) (.slice none 0 0) (.slice none 0 0)
  clear hb hb2 A2
  obtain ⟨c0, c1, c2, c3, c4, c5, c6, c7, c8, c9⟩ := C3.parts
  go_wp2_with fail
  (with_reducible refine (K4.out _ (bal hb3 _)).mono ?_)
  rintro e w4 ⟨rfl, hb⟩
  have B4 := RowV.keep hb B3
  have C4 := RowV.keep hb C3
  have hb4 := btr (bal hb3 _) hb
  have l4 := B4.lt
  clear hb hb3 B3 C3 c0 c1 c2 c3 c4 c5 c6 c7 c8 c9 A3
  go_wp2_with fail
  (with_reducible refine (K5.out _ hb4).mono ?_)
  rintro e w5 ⟨rfl, hb⟩
  have B5 := RowV.keep hb B4
  have C5 := RowV.keep hb C4
  have hb5 := btr hb4 hb
  have l5 := B5.lt
  have B6 := RowV.alloc B5 (.cells #[.int .i64 0, .bool false, .int .u64 0, .int .u64 0, .int .u64 0, .int .u64 0, .int .u64 0, .string ⟨#[]⟩, .slice none 0 0, .slice none 0 0] 31)
  have C6 := RowV.alloc C5 (.cells #[.int .i64 0, .bool false, .int .u64 0, .int .u64 0, .int .u64 0, .int .u64 0, .int .u64 0, .string ⟨#[]⟩, .slice none 0 0, .slice none 0 0] 31)
  clear hb hb4 B4 C4 B5
  obtain ⟨b0, b1, b2, b3, b4, b5, b6, b7, b8, b9⟩ := B6.parts
  obtain ⟨c0, c1, c2, c3, c4, c5, c6, c7, c8, c9⟩ := C6.parts
  go_wp2
  go_ret
  exact ⟨rfl, bal hb5 _⟩
theorem told4_true (w : World) (hT : Tb w) (hU : Tab w) : Calls Tryz.prog 12 #[] w fun e w' => e = .returned (.bool true) ∧ Below w.heap.size w w' := by
  refine told4_core w (fun W hW => ?_) (fun W hW => ?_) (fun W hW => ?_) (fun W hW => ?_) (fun W hW => ?_)
  · have := dparse_any [49,101,50] W (tb_on hT hW)
    rw [tt1, vx_of 3 100 (by decide)] at this
    exact this
  · have := dparse_any [48,46,49] W (tb_on hT hW)
    rw [tt2] at this
    exact this
  · have := dparse_any [45,48,46,53,101,48] W (tb_on hT hW)
    rw [tt3, vx_of 4 0 (by decide)] at this
    exact this
  · have := dprint_any 13826050856027422720 (by decide) W (tb_on hT hW) (tab_on hU hW)
    rw [tt5] at this
    exact this
  · have := dparse_any [48,49] W (tb_on hT hW)
    rw [tt4] at this
    exact this
end Go.Proofs.YtjdogiehcgfmjaaGreatDoor
