/-
  entrepotlaw1.told: it answers true. The table internal/strconv.uint64pow10 reads as its initialiser lays it.
-/
import Derived.Test.YtngmdncidieclaaDoorNatPrint
import Derived.Test.YtngmdncidieclaaDoorNatParse
import Derived.Test.YtngmdncidieclaaDoorNatShl
namespace Go.Proofs.YtngmdncidieclaaDoor
open Go.RowKit Go.Shelf
attribute [local go_sem ↓] eql_nat neq_nat

set_option maxRecDepth 100000 in
/-- nat.Trail of 0. -/
theorem trail_zero (w : World) : Calls Tryd.prog 19 #[Z4] w fun e w' => e = .returned (.int .i64 256) ∧ Below w.heap.size w w' := by
  go_enter Tryd.func19, Tryd.ntmps19
  have j0 : ∀ W, (Instr.index 24 Z4 (.int .i64 0)).run Tryd.prog W = .ok (.int .u64 0) W := fun _ => by kernel_rfl
  have j1 : ∀ W, (Instr.index 24 Z4 (.int .i64 1)).run Tryd.prog W = .ok (.int .u64 0) W := fun _ => by kernel_rfl
  have j2 : ∀ W, (Instr.index 24 Z4 (.int .i64 2)).run Tryd.prog W = .ok (.int .u64 0) W := fun _ => by kernel_rfl
  have j3 : ∀ W, (Instr.index 24 Z4 (.int .i64 3)).run Tryd.prog W = .ok (.int .u64 0) W := fun _ => by kernel_rfl
  go_wp2
  refine wp_loop_rounds 5 ?_
  rw [rounds_succ]
  go_wp2
  rw [rounds_succ]
  go_wp2
  rw [rounds_succ]
  go_wp2
  rw [rounds_succ]
  go_wp2
  rw [rounds_succ]
  go_wp2
  go_ret
  refine ⟨rfl, ?_⟩
  repeat (first | exact Below.refl _ _ | refine bal ?_ _ | refine Below.drew ?_ | refine bdn ?_ _)

set_option maxHeartbeats 1000000 in
set_option maxRecDepth 100000 in
theorem told_core (a0 a1 a2 a3 b0 b1 b2 b3 : Int)
    (h1 : ∀ W, Calls Tryd.prog 11 #[.agg #[.int .u64 1, .int .u64 0, .int .u64 0, .int .u64 0], .int .i64 255] W fun e w' => e = .returned (.tuple #[.agg #[.int .u64 a0, .int .u64 a1, .int .u64 a2, .int .u64 a3], .bool true]) ∧ Below W.heap.size W w')
    (h2 : ∀ W, Calls Tryd.prog 11 #[.agg #[.int .u64 a0, .int .u64 a1, .int .u64 a2, .int .u64 a3], .int .i64 1] W fun e w' => e = .returned (.tuple #[Z4, .bool false]) ∧ Below W.heap.size W w')
    (h3 : ∀ W, Calls Tryd.prog 24 #[.string ⟨#[48, 48]⟩] W fun e w' => e = .returned (.tuple #[Z4, .bool false]) ∧ Below W.heap.size W w')
    (h4 : ∀ W, Calls Tryd.prog 24 #[.string ⟨#[49, 56, 52, 52, 54, 55, 52, 52, 48, 55, 51, 55, 48, 57, 53, 53, 49, 54, 49, 54]⟩] W fun e w' => e = .returned (.tuple #[.agg #[.int .u64 b0, .int .u64 b1, .int .u64 b2, .int .u64 b3], .bool true]) ∧ Below W.heap.size W w')
    (h5 : ∀ W, Calls Tryd.prog 18 #[.agg #[.int .u64 a0, .int .u64 a1, .int .u64 a2, .int .u64 a3]] W fun e w' => e = .returned (.int .i64 256) ∧ Below W.heap.size W w')
    (h6 : eq4 b0 b1 b2 b3 0 1 0 0 = true)
    (h7 : ∀ W, Tab W → Calls Tryd.prog 26 #[.agg #[.int .u64 b0, .int .u64 b1, .int .u64 b2, .int .u64 b3]] W fun e w' => (∃ p : ByteArray, e = .returned (.string p) ∧ p.data.toList = [49, 56, 52, 52, 54, 55, 52, 52, 48, 55, 51, 55, 48, 57, 53, 53, 49, 54, 49, 54]) ∧ Below W.heap.size W w')
    (w : World) (htab : Tab w) :
    Calls Tryd.prog 16 #[] w fun e w' => e = .returned (.bool true) ∧ Below w.heap.size w w' := by
  have H1 := Lib.hid h1; have H2 := Lib.hid h2; have H3 := Lib.hid h3; have H4 := Lib.hid h4; have H5 := Lib.hid h5; have H7 := Lib.hid h7; have HT := Lib.hid htab
  clear h1 h2 h3 h4 h5 h7 htab
  go_enter Tryd.func16, Tryd.ntmps16
  go_wp2_with fail
  refine (of_any _ _).mono ?_
  rintro e w1 ⟨rfl, hb⟩
  have B1 := btr (Below.refl _ w) hb; clear hb
  go_wp2_with fail
  refine (H1.out _).mono ?_
  rintro e w2 ⟨rfl, hb⟩
  have B2 := btr B1 hb; clear hb
  have A2 : Row4 (w2.alloc (.cells #[.int .u64 a0, .int .u64 a1, .int .u64 a2, .int .u64 a3] 24)) w2.heap.size (.int .u64 a0) (.int .u64 a1) (.int .u64 a2) (.int .u64 a3) := Row4.new _ _ _ _ _
  go_wp2_with fail
  refine (H2.out _).mono ?_
  rintro e w3 ⟨rfl, hb⟩
  have B3 := btr (bal B2 _) hb
  have A3 := Row4.keep hb A2
  clear hb A2 B1 B2
  go_wp2_with fail
  refine (H3.out _).mono ?_
  rintro e w4 ⟨rfl, hb⟩
  have B4 := btr (bal B3 _) hb
  have A4 := Row4.keep hb (Row4.alloc A3 _)
  clear hb A3 B3
  go_wp2_with fail
  refine (H4.out _).mono ?_
  rintro e w5 ⟨rfl, hb⟩
  have B5 := btr (bal B4 _) hb
  have A5 := Row4.keep hb (Row4.alloc A4 _)
  have b5 : Row4 (w5.alloc (.cells #[.int .u64 b0, .int .u64 b1, .int .u64 b2, .int .u64 b3] 24)) w5.heap.size (.int .u64 b0) (.int .u64 b1) (.int .u64 b2) (.int .u64 b3) := Row4.new _ _ _ _ _
  have hne : ¬ w2.heap.size = w5.heap.size := by have := A5.lt; omega
  obtain ⟨t0, t1, t2, t3, t4⟩ := (Row4.alloc A5 (.cells #[.int .u64 b0, .int .u64 b1, .int .u64 b2, .int .u64 b3] 24)).parts
  clear hb A4 B4 t4
  go_wp2_with fail
  refine (H5.out _).mono ?_
  rintro e w6 ⟨rfl, hb⟩
  have B6 := btr (bal B5 _) hb
  have b6 := Row4.keep hb b5
  obtain ⟨t0, t1, t2, t3, t4⟩ := b6.parts
  clear hb A5 B5 b5 t4 hne
  go_wp2_with fail
  refine (H7.out _ (tab_on HT.out B6)).mono ?_
  rintro e w7 ⟨⟨p, rfl, hp⟩, hb⟩
  have B7 := btr B6 hb
  have hpe : (p.toList == [49, 56, 52, 52, 54, 55, 52, 52, 48, 55, 51, 55, 48, 57, 53, 53, 49, 54, 49, 54]) = true := by rw [toList_data, hp]; rfl
  clear hb B6 b6 t0 t1 t2 t3 hp
  go_wp2_with fail
  refine (trail_zero _).mono ?_
  rintro e w8 ⟨rfl, hb⟩
  have B8 := btr B7 hb
  clear hb B7
  go_wp2
  go_ret
  exact ⟨rfl, B8⟩

theorem dec_big : Lib.decDigits (2 ^ 64) = [49, 56, 52, 52, 54, 55, 52, 52, 48, 55, 51, 55, 48, 57, 53, 53, 49, 54, 49, 54] := by
  simp [Lib.decDigits]
theorem told_true (w : World) (htab : Tab w) : Calls Tryd.prog 16 #[] w fun e w' => e = .returned (.bool true) ∧ Below w.heap.size w w' := by
  have p00 : parseN ⟨#[48, 48]⟩ = none := by decide +kernel
  have pbig : parseN ⟨#[49, 56, 52, 52, 54, 55, 52, 52, 48, 55, 51, 55, 48, 57, 53, 53, 49, 54, 49, 54]⟩ = some (2 ^ 64) := by decide +kernel
  refine told_core (lb 0 (1 * 2 ^ 255)) (lb 1 (1 * 2 ^ 255)) (lb 2 (1 * 2 ^ 255)) (lb 3 (1 * 2 ^ 255)) (lb 0 (2 ^ 64)) (lb 1 (2 ^ 64)) (lb 2 (2 ^ 64)) (lb 3 (2 ^ 64)) (fun W => ?_) (fun W => ?_) (fun W => ?_) (fun W => ?_) (fun W => ?_) ?_ (fun W hW => ?_) w htab
  · have := shl_ok 1 255 (by decide) (by decide) W
    unfold N4 at this
    rw [show lb 0 1 = 1 from by rw [lb0]; decide, show lb 1 1 = 0 from by rw [lb1]; decide, show lb 2 1 = 0 from by rw [lb2]; decide, show lb 3 1 = 0 from by rw [lb3]; decide] at this
    exact this
  · exact shl_no (1 * 2 ^ 255) 1 (by decide) (by decide) W
  · refine (parse_any W ⟨#[48, 48]⟩ (by decide)).mono ?_
    rintro e w' ⟨he, hb⟩
    unfold ParseEnd at he
    rw [p00] at he
    exact ⟨he, hb⟩
  · refine (parse_any W ⟨#[49, 56, 52, 52, 54, 55, 52, 52, 48, 55, 51, 55, 48, 57, 53, 53, 49, 54, 49, 54]⟩ (by decide)).mono ?_
    rintro e w' ⟨he, hb⟩
    unfold ParseEnd at he
    rw [pbig] at he
    exact ⟨he, hb⟩
  · have := len_any (1 * 2 ^ 255) (by decide) W
    rw [blen_unique (x := 1 * 2 ^ 255) (L := 256) (by decide) (by decide) (by decide)] at this
    exact this
  · unfold eq4
    rw [lb0, lb1, lb2, lb3]
    decide
  · have := print_any (2 ^ 64) (by decide) W hW
    rw [dec_big] at this
    exact this

end Go.Proofs.YtngmdncidieclaaDoor
