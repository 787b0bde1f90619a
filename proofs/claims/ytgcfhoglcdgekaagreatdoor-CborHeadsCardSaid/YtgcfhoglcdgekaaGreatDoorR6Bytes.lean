/-
  entrepotref6.bytes: the last k bytes of a number, the greatest first.
-/
import Derived.Test.YtgcfhoglcdgekaaGreatDoorGS
namespace Go.Proofs.YtgcfhoglcdgekaaGreatDoor
open Go.RowKit Go.Shelf
open Go.Sort (grow)
set_option linter.unusedVariables false

/-- Block g is just these bytes. -/
def Bk (W : World) (g : Nat) (l : List UInt8) : Prop := W.heap[g]? = some (.cells (U8s l).toArray 5 (0, 0))
theorem Bk.lt {W : World} {g : Nat} {l : List UInt8} (h : Bk W g l) : g < W.heap.size := by
  rcases Nat.lt_or_ge g W.heap.size with hlt | hge
  · exact hlt
  · unfold Bk at h; rw [Array.getElem?_eq_none hge] at h; cases h
theorem Bk.free {W : World} {g : Nat} {l : List UInt8} (h : Bk W g l) (i : Nat) : W.frozen? ⟨g, i, none⟩ = false := frozen_of_row W g i _ _ h
theorem Bk.at {W : World} {g : Nat} {l : List UInt8} (h : Bk W g l) : BytesAt W g 0 l := by
  intro i b hi
  rw [Nat.zero_add, cell_of_row W g i _ _ _ h]
  unfold U8s
  simp [hi]
theorem Bk.cell {W : World} {g : Nat} {l : List UInt8} (h : Bk W g l) {i : Nat} (hi : i < l.length) : ∃ b : UInt8, W.cell? ⟨g, i, none⟩ = some (.int .u8 (b.toNat : Int)) := by
  have := h.at i l[i] (List.getElem?_eq_getElem hi)
  rw [Nat.zero_add] at this
  exact ⟨_, this⟩
theorem Bk.set {W : World} {g : Nat} {l : List UInt8} (h : Bk W g l) (i : Nat) (c : UInt8) (z : Int) (e : (c.toNat : Int) = z) : Bk (W.setCell ⟨g, i, none⟩ (.int .u8 z)) g (l.set i c) := by
  unfold Bk at *
  rw [heap_setCell_same W g i _ _ _ h]
  congr 2
  rw [← e]
  apply Array.ext'
  simp [U8s, List.map_set]
theorem Bk.new (W : World) (l : List UInt8) : Bk (W.alloc (.cells (U8s l).toArray 5)) W.heap.size l := heap_alloc_new W _
theorem made_u8 (N : Nat) : madeCells #[.int .u8 0] N = (U8s (List.replicate N 0)).toArray := by
  apply Array.ext'
  apply List.ext_getElem
  · simp [madeCells, U8s]
  · intro i h1 h2
    simp [madeCells, U8s, Nat.mod_one]
theorem make_u8 (N : Nat) (hN : N ≤ 100000) (z : Int) (e : (N : Int) = z) (W : World) :
    (Instr.makeSlice 24 (.int .i64 z) (.int .i64 z)).run Tryz.prog W = .ok (.slice (some ⟨W.heap.size, 0, none⟩) N N) (W.alloc (.cells (U8s (List.replicate N 0)).toArray 5)) := by
  obtain ⟨i0, hi, hz0, hz1, hz2⟩ := info_at info_u8
  rw [← e, ← made_u8]
  exact run_make_row' 24 5 (.int .u8 0) 1 und_u8s info_u8 rfl .i64 .i64 N (by omega) (by omega) W
theorem set_be (n k t : Nat) (h : t < k) : (List.replicate (k - t) (0 : UInt8) ++ be n t).set (k - 1 - t) (UInt8.ofNat (n / 256 ^ t)) = List.replicate (k - (t + 1)) 0 ++ be n (t + 1) := by
  obtain ⟨s, rfl⟩ : ∃ s, k = s + 1 + t := ⟨k - 1 - t, by omega⟩
  rw [show s + 1 + t - t = s + 1 from by omega, show s + 1 + t - 1 - t = s from by omega, show s + 1 + t - (t + 1) = s from by omega, be_succ, List.replicate_succ', List.append_assoc, List.set_append_right _ _ (by simp)]
  simp
set_option maxRecDepth 100000 in
set_option maxHeartbeats 4000000 in
theorem rbytes (n k : Nat) (hn : n < 18446744073709551616) (hk : k ≤ 64) (w : World) :
    Calls Tryz.prog 70 #[.int .u64 n, .int .i64 k] w fun e w' => e = .returned (.string (str (be n k))) ∧ Below w.heap.size w w' := by
  have hmk := make_u8 k (by omega) (k : Int) rfl
  obtain ⟨M, hM⟩ : ∃ M, M = (U8s (List.replicate k 0)).toArray := ⟨_, rfl⟩
  rw [← hM] at hmk
  have HMM := Lib.hid hM; clear hM
  go_enter Tryz.func70, Tryz.ntmps70
  go_wp2
  go_loopw [0, 6] (fun nv iv wr => ∃ (t : Nat) (j v : Int), t ≤ k ∧ j + 1 + t = (k : Int) ∧ nv = .int .u64 v ∧ iv = .int .i64 j ∧ Hid (v = ((n / 256 ^ t : Nat) : Int)) ∧ Hid (Bk wr w.heap.size (List.replicate (k - t) 0 ++ be n t)) ∧ Hid (Below w.heap.size w wr)) (fun _ iv _ => (intOf iv + 1).toNat)
  case atStart => exact ⟨0, (k : Int) - 1, n, by omega, by omega, rfl, by go_num, by (show (n : Int) = _; simp), (by show Bk _ _ _; rw [HMM.out, be_zero, List.append_nil, Nat.sub_zero]; exact Bk.new w _), bal (Below.refl _ _) _⟩
  case round =>
    obtain ⟨t, j, v, ht, hj, rfl, rfl, HV, HB, WR⟩ := hrel
    have hl : (List.replicate (k - t) (0 : UInt8) ++ be n t).length = k := by rw [List.length_append, List.length_replicate, be_len]; omega
    have hws := WR.out.size
    rename World => wr
    by_cases h1 : t < k
    · obtain ⟨p, hp⟩ : ∃ p : Nat, p = k - 1 - t := ⟨_, rfl⟩
      obtain rfl : j = (p : Int) := by omega
      obtain ⟨b0, q1⟩ := HB.out.cell (i := p) (by rw [hl]; omega)
      have q2 := HB.out.free p
      have hv0 : 0 ≤ v := by rw [HV.out]; exact Int.natCast_nonneg _
      have hv1 : v < 18446744073709551616 := by
        rw [HV.out]
        have := Nat.div_le_self n (256 ^ t)
        omega
      obtain ⟨X, hX⟩ : ∃ X : Int, v % 256 = X := ⟨_, rfl⟩
      have hB2 := HB.out.set p (UInt8.ofNat (n / 256 ^ t)) X (by
        rw [← hX, HV.out]
        simp)
      rw [hp, set_be n k t h1, ← hp] at hB2
      have HB2 := Lib.hid hB2
      have HV2 : Hid (v / 256 = ((n / 256 ^ (t + 1) : Nat) : Int)) := by
        show _ = _
        rw [HV.out, Nat.pow_succ, ← Nat.div_div_eq_div_mul]
        omega
      have t0 : ((p : Int)).toNat = p := Int.toNat_natCast p
      have b1 : (0 : Int) ≤ (p : Int) := by omega
      have b2 : (p : Int) < (k : Int) := by omega
      have WR2 : Hid (Below w.heap.size w (wr.setCell ⟨w.heap.size, p, none⟩ (.int .u8 X))) := bsc WR.out (Nat.le_refl _) _
      clear HV HB hB2 hp hl
      go_wp2
      go_roundw
      case rel => exact ⟨t + 1, (p : Int) - 1, v / 256, by omega, by omega, rfl, by go_num, HV2, HB2, WR2⟩
      case measure => simp [intOf]
    · obtain rfl : t = k := by omega
      obtain rfl : j = -1 := by omega
      have hB := HB.out
      rw [Nat.sub_self, List.replicate_zero, List.nil_append] at hB
      have hcv := conv_bytes wr w.heap.size 0 t (be n t) hB.at t (be_len n t)
      have hneg : ¬ (0 : Int) ≤ -1 := by decide
      go_wp2
      go_ret
      exact ⟨rfl, WR.out⟩
end Go.Proofs.YtgcfhoglcdgekaaGreatDoor
