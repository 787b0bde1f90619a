/-
  The reference's Pow, and Shift to greater numbers: the contracts, for places up to 30000.
-/
import Derived.Test.YtfbkifcgdkgllaaDoorRefBits
namespace Go.Proofs.YtfbkifcgdkgllaaDoor
open Go.RowKit Go.Shelf

theorem pow_digs (q r : Nat) (hr : r < 32) : digs (2 ^ (32 * q + r)) = (List.replicate (q + 1) 0).set q (2 ^ r) := by
  have hv : 2 ^ r < 4294967296 := by
    have : 2 ^ r < 2 ^ 32 := Nat.pow_lt_pow_right (by decide) hr
    exact this
  have hp := Nat.two_pow_pos r
  have e := dval_set (List.replicate (q + 1) 0) q (2 ^ r) (by simp)
  rw [dval_zeros, List.getD_eq_getElem?_getD, List.getElem?_replicate, if_pos (by omega)] at e
  simp only [Option.getD_some, Nat.mul_zero, Nat.add_zero, Nat.zero_add] at e
  rw [Nat.pow_add, ← e]
  refine digs_of_last ((Sm.zeros _).set _ hv) ?_
  intro d hd
  rw [List.getLast?_eq_getElem?] at hd
  simp at hd
  omega
set_option maxHeartbeats 1000000 in
set_option maxRecDepth 100000 in
theorem rpow_core (k q r v : Nat) (hq : (k : Int) / 32 = (q : Int)) (hr : (k : Int) % 32 = (r : Int)) (hk : k ≤ 30000) (hv : IntKind.u32.wrap (2 ^ r) = (v : Int)) (M : Array Value) (w : World)
    (hmk : ∀ W, (Instr.makeSlice 26 (.int .i64 ((q : Int) + 1)) (.int .i64 ((q : Int) + 1))).run Tryd.prog W = .ok (.slice (some ⟨W.heap.size, 0, none⟩) (q + 1) (q + 1)) (W.alloc (.cells M 63)))
    (c0 : (w.alloc (.cells M 63)).cell? ⟨w.heap.size, q, none⟩ = some (.int .u32 0)) (f0 : (w.alloc (.cells M 63)).frozen? ⟨w.heap.size, q, none⟩ = false) :
    Calls Tryd.prog 72 #[.int .i64 (k : Int)] w fun e w' => e = .returned (.slice (some ⟨w.heap.size, 0, none⟩) (q + 1) (q + 1)) ∧ w' = w.alloc (.cells (M.setIfInBounds q (.int .u32 (v : Int))) 63) := by
  have b0 : (0 : Int) ≤ (q : Int) := by omega
  have b1 : (q : Int) < ((q + 1 : Nat) : Int) := by omega
  have b2 : (0 : Int) ≤ (r : Int) := by omega
  have b3 : (r : Int) ≤ 32 := by omega
  have b4 : (q : Int) ≤ 1000 := by omega
  have t1 : ((q : Int)).toNat = q := Int.toNat_natCast q
  have t2 : ((r : Int)).toNat = r := Int.toNat_natCast r
  go_enter Tryd.func72, Tryd.ntmps72
  go_wp2
  go_ret
  exact ⟨rfl, rfl⟩
theorem rpow (k : Nat) (hk : k ≤ 30000) (w : World) :
    Calls Tryd.prog 72 #[.int .i64 (k : Int)] w fun e w' => ∃ s', e = .returned s' ∧ DR w' s' (2 ^ k) ∧ Below w.heap.size w w' := by
  have hr : k % 32 < 32 := Nat.mod_lt _ (by decide)
  have hv : 2 ^ (k % 32) < 4294967296 := by
    have : 2 ^ (k % 32) < 2 ^ 32 := Nat.pow_lt_pow_right (by decide) hr
    exact this
  have hD := Dk.new w (List.replicate (k / 32 + 1) 0)
  have c0 := hD.cell (i := k / 32) (by simp)
  have f0 := hD.free (k / 32)
  rw [List.getD_eq_getElem?_getD, List.getElem?_replicate, if_pos (by omega)] at c0
  have hmk := make_u32 (k / 32 + 1) (by omega) (((k / 32 : Nat) : Int) + 1) (by omega)
  have hw : IntKind.u32.wrap ((2 : Int) ^ (k % 32)) = ((2 ^ (k % 32) : Nat) : Int) := by
    rw [IntKind.wrap_u32']
    have : (2 : Int) ^ (k % 32) = ((2 ^ (k % 32) : Nat) : Int) := by rw [Int.natCast_pow]; rfl
    rw [this]
    generalize 2 ^ (k % 32) = P at hv
    omega
  refine (rpow_core k (k / 32) (k % 32) (2 ^ (k % 32)) (by omega) (by omega) hk hw _ w hmk c0 f0).mono ?_
  rintro e w' ⟨rfl, rfl⟩
  have hD2 : Dk (w.alloc (.cells ((U32s (List.replicate (k / 32 + 1) 0)).toArray.setIfInBounds (k / 32) (.int .u32 ((2 ^ (k % 32) : Nat) : Int))) 63)) w.heap.size ((List.replicate (k / 32 + 1) 0).set (k / 32) (2 ^ (k % 32))) := by
    have e : (U32s (List.replicate (k / 32 + 1) 0)).toArray.setIfInBounds (k / 32) (.int .u32 ((2 ^ (k % 32) : Nat) : Int)) = (U32s ((List.replicate (k / 32 + 1) 0).set (k / 32) (2 ^ (k % 32)))).toArray := by
      apply Array.ext'
      simp [U32s, List.map_set]
    rw [e]
    exact Dk.new w _
  have hrd := hD2.rd (by simp; omega)
  rw [List.length_set, List.length_replicate, ← pow_digs (k / 32) (k % 32) hr, show 32 * (k / 32) + k % 32 = k from by omega] at hrd
  exact ⟨_, rfl, hrd, bal (Below.refl _ _) _⟩
theorem pow_len {k : Nat} (hk : k ≤ 30000) : (digs (2 ^ k)).length ≤ 1000 := by
  have h := pow_digs (k / 32) (k % 32) (Nat.mod_lt _ (by decide))
  rw [show 32 * (k / 32) + k % 32 = k from by omega] at h
  rw [h, List.length_set, List.length_replicate]
  omega
set_option maxRecDepth 100000 in
theorem rshl {s : Value} {x : Nat} {w : World} (h : DR w s x) (lx : (digs x).length ≤ 1000) (k : Nat) (hk : k ≤ 30000) :
    Calls Tryd.prog 13 #[s, .int .i64 (k : Int)] w fun e w' => ∃ s', e = .returned s' ∧ DR w' s' (x * 2 ^ k) ∧ Below w.heap.size w w' := by
  have HX := Lib.hid h; have HL := Lib.hid lx; have HK := Lib.hid hk; clear h lx hk
  have b0 : (0 : Int) ≤ (k : Int) := by omega
  go_enter Tryd.func13, Tryd.ntmps13
  go_wp2_with fail
  refine (rpow k HK.out _).mono ?_
  rintro e w1 ⟨s1, rfl, hr, hb⟩
  have H1 := Lib.hid hr; have HB := Lib.hid hb; clear hr hb
  go_wp2_with fail
  refine (rmul (HX.out.keep HB.out) H1.out HL.out (pow_len HK.out)).mono ?_
  rintro e w2 ⟨s2, rfl, hr, hb⟩
  have hb2 := btr HB.out hb
  clear hb
  go_wp2
  go_ret
  exact ⟨s2, rfl, hr, hb2⟩
end Go.Proofs.YtfbkifcgdkgllaaDoor
