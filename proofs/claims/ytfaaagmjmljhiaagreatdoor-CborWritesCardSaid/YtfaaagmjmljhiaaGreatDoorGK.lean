/-
  R6Bytes CbHdR CbEncR R6Whole R6WholeW, one behind the other: a claim holds at most 60 files.
-/
import Derived.Test.YtfaaagmjmljhiaaGreatDoorGS
import Derived.Deep.RegionWith
import Derived.Test.YtfaaagmjmljhiaaGreatDoorGO
import Derived.Test.YtfaaagmjmljhiaaGreatDoorGH
import Derived.Lib.QuietBelow
import Derived.BigQuiet
section
namespace Go.Proofs.YtfaaagmjmljhiaaGreatDoor
open Go.RowKit Go.Shelf
open Go.Sort (grow)
set_option linter.unusedVariables false

/-- Block g is just these bytes. -/
def Bk (W : World) (g : Nat) (l : List UInt8) : Prop := W.heap[g]? = some (.cells (U8s l).toArray 5 (0, 0))
theorem Bk.lt {W : World} {g : Nat} {l : List UInt8} (h : Bk W g l) : g < W.heap.size := by
  rcases Nat.lt_or_ge g W.heap.size with hlt | hge
  · exact hlt
  · unfold Bk at h; rw [Array.getElem?_eq_none hge] at h; cases h
theorem Bk.free {W : World} {g : Nat} {l : List UInt8} (h : Bk W g l) (i : Nat) : W.frozen? ⟨g, i, none⟩ = false := frozen_of_row W g i _ _ h
theorem Bk.at {W : World} {g : Nat} {l : List UInt8} (h : Bk W g l) : BytesAt W g 0 l := by
  intro i b hi
  rw [Nat.zero_add, cell_of_row W g i _ _ _ h]
  unfold U8s
  simp [hi]
theorem Bk.cell {W : World} {g : Nat} {l : List UInt8} (h : Bk W g l) {i : Nat} (hi : i < l.length) : ∃ b : UInt8, W.cell? ⟨g, i, none⟩ = some (.int .u8 (b.toNat : Int)) := by
  have := h.at i l[i] (List.getElem?_eq_getElem hi)
  rw [Nat.zero_add] at this
  exact ⟨_, this⟩
theorem Bk.set {W : World} {g : Nat} {l : List UInt8} (h : Bk W g l) (i : Nat) (c : UInt8) (z : Int) (e : (c.toNat : Int) = z) : Bk (W.setCell ⟨g, i, none⟩ (.int .u8 z)) g (l.set i c) := by
  unfold Bk at *
  rw [heap_setCell_same W g i _ _ _ h]
  congr 2
  rw [← e]
  apply Array.ext'
  simp [U8s, List.map_set]
theorem Bk.new (W : World) (l : List UInt8) : Bk (W.alloc (.cells (U8s l).toArray 5)) W.heap.size l := heap_alloc_new W _
theorem made_u8 (N : Nat) : madeCells #[.int .u8 0] N = (U8s (List.replicate N 0)).toArray := by
  apply Array.ext'
  apply List.ext_getElem
  · simp [madeCells, U8s]
  · intro i h1 h2
    simp [madeCells, U8s, Nat.mod_one]
theorem make_u8 (N : Nat) (hN : N ≤ 100000) (z : Int) (e : (N : Int) = z) (W : World) :
    (Instr.makeSlice 24 (.int .i64 z) (.int .i64 z)).run Tryz.prog W = .ok (.slice (some ⟨W.heap.size, 0, none⟩) N N) (W.alloc (.cells (U8s (List.replicate N 0)).toArray 5)) := by
  obtain ⟨i0, hi, hz0, hz1, hz2⟩ := info_at info_u8
  rw [← e, ← made_u8]
  exact run_make_row' 24 5 (.int .u8 0) 1 und_u8s info_u8 rfl .i64 .i64 N (by omega) (by omega) W
theorem set_be (n k t : Nat) (h : t < k) : (List.replicate (k - t) (0 : UInt8) ++ be n t).set (k - 1 - t) (UInt8.ofNat (n / 256 ^ t)) = List.replicate (k - (t + 1)) 0 ++ be n (t + 1) := by
  obtain ⟨s, rfl⟩ : ∃ s, k = s + 1 + t := ⟨k - 1 - t, by omega⟩
  rw [show s + 1 + t - t = s + 1 from by omega, show s + 1 + t - 1 - t = s from by omega, show s + 1 + t - (t + 1) = s from by omega, be_succ, List.replicate_succ', List.append_assoc, List.set_append_right _ _ (by simp)]
  simp
set_option maxRecDepth 100000 in
set_option maxHeartbeats 4000000 in
theorem rbytes (n k : Nat) (hn : n < 18446744073709551616) (hk : k ≤ 64) (w : World) :
    Calls Tryz.prog 21 #[.int .u64 n, .int .i64 k] w fun e w' => e = .returned (.string (str (be n k))) ∧ Below w.heap.size w w' := by
  have hmk := make_u8 k (by omega) (k : Int) rfl
  obtain ⟨M, hM⟩ : ∃ M, M = (U8s (List.replicate k 0)).toArray := ⟨_, rfl⟩
  rw [← hM] at hmk
  have HMM := Lib.hid hM; clear hM
  go_enter Tryz.func21, Tryz.ntmps21
  go_wp2
  go_loopw [0, 6] (fun nv iv wr => ∃ (t : Nat) (j v : Int), t ≤ k ∧ j + 1 + t = (k : Int) ∧ nv = .int .u64 v ∧ iv = .int .i64 j ∧ Hid (v = ((n / 256 ^ t : Nat) : Int)) ∧ Hid (Bk wr w.heap.size (List.replicate (k - t) 0 ++ be n t)) ∧ Hid (Below w.heap.size w wr)) (fun _ iv _ => (intOf iv + 1).toNat)
  case atStart => exact ⟨0, (k : Int) - 1, n, by omega, by omega, rfl, by go_num, by (show (n : Int) = _; simp), (by show Bk _ _ _; rw [HMM.out, be_zero, List.append_nil, Nat.sub_zero]; exact Bk.new w _), bal (Below.refl _ _) _⟩
  case round =>
    obtain ⟨t, j, v, ht, hj, rfl, rfl, HV, HB, WR⟩ := hrel
    have hl : (List.replicate (k - t) (0 : UInt8) ++ be n t).length = k := by rw [List.length_append, List.length_replicate, be_len]; omega
    have hws := WR.out.size
    rename World => wr
    by_cases h1 : t < k
    · obtain ⟨p, hp⟩ : ∃ p : Nat, p = k - 1 - t := ⟨_, rfl⟩
      obtain rfl : j = (p : Int) := by omega
      obtain ⟨b0, q1⟩ := HB.out.cell (i := p) (by rw [hl]; omega)
      have q2 := HB.out.free p
      have hv0 : 0 ≤ v := by rw [HV.out]; exact Int.natCast_nonneg _
      have hv1 : v < 18446744073709551616 := by
        rw [HV.out]
        have := Nat.div_le_self n (256 ^ t)
        omega
      obtain ⟨X, hX⟩ : ∃ X : Int, v % 256 = X := ⟨_, rfl⟩
      have hB2 := HB.out.set p (UInt8.ofNat (n / 256 ^ t)) X (by
        rw [← hX, HV.out]
        simp)
      rw [hp, set_be n k t h1, ← hp] at hB2
      have HB2 := Lib.hid hB2
      have HV2 : Hid (v / 256 = ((n / 256 ^ (t + 1) : Nat) : Int)) := by
        show _ = _
        rw [HV.out, Nat.pow_succ, ← Nat.div_div_eq_div_mul]
        omega
      have t0 : ((p : Int)).toNat = p := Int.toNat_natCast p
      have b1 : (0 : Int) ≤ (p : Int) := by omega
      have b2 : (p : Int) < (k : Int) := by omega
      have WR2 : Hid (Below w.heap.size w (wr.setCell ⟨w.heap.size, p, none⟩ (.int .u8 X))) := bsc WR.out (Nat.le_refl _) _
      clear HV HB hB2 hp hl
      go_wp2
      go_roundw
      case rel => exact ⟨t + 1, (p : Int) - 1, v / 256, by omega, by omega, rfl, by go_num, HV2, HB2, WR2⟩
      case measure => simp [intOf]
    · obtain rfl : t = k := by omega
      obtain rfl : j = -1 := by omega
      have hB := HB.out
      rw [Nat.sub_self, List.replicate_zero, List.nil_append] at hB
      have hcv := conv_bytes wr w.heap.size 0 t (be n t) hB.at t (be_len n t)
      have hneg : ¬ (0 : Int) ≤ -1 := by decide
      go_wp2
      go_ret
      exact ⟨rfl, WR.out⟩
end Go.Proofs.YtfaaagmjmljhiaaGreatDoor
end
section
namespace Go.Proofs.YtfaaagmjmljhiaaGreatDoor
open Go.RowKit Go.Shelf
open Go.Sort (grow)
set_option linter.unusedVariables false

theorem u8_or_nat (a b : Nat) (ha : a < 256) (hb : b < 256) : bits .or .u8 (a : Int) (b : Int) = ((a ||| b : Nat) : Int) := by
  have hx : a ||| b < 2 ^ 8 := Nat.or_lt_two_pow (by omega) (by omega)
  show IntKind.u8.wrap ((BitVec.ofInt 8 (a : Int) ||| BitVec.ofInt 8 (b : Int)).toNat : Int) = _
  have e : (BitVec.ofInt 8 (a : Int) ||| BitVec.ofInt 8 (b : Int)).toNat = a ||| b := by
    rw [BitVec.toNat_or]
    simp only [BitVec.toNat_ofInt]
    congr 1 <;> omega
  rw [e]
  exact Go.IntWalk.u8_in _ (by omega)
theorem or8 (m k : Nat) (hm : m < 8) (hk : k < 32) : bits .or .u8 ((m : Int) * 32) (k : Int) = ((m * 32 + k : Nat) : Int) := by
  rw [show ((m : Int) * 32) = ((m * 32 : Nat) : Int) by omega, u8_or_nat _ _ (by omega) (by omega)]
  have := Nat.two_pow_add_eq_or_of_lt (i := 5) (b := k) (by omega) m
  rw [show m * 32 = 2 ^ 5 * m by omega, this]
theorem hds_low {m n : Nat} (h : n < 24) : hds m n = [UInt8.ofNat (m * 32 + n)] := by
  unfold hds sinf
  rw [if_pos h]
  unfold hby
  rw [hsz_low h]
  rfl
theorem u8s_one {v : Nat} (h : v < 256) {Z : Int} (hZ : Z = (v : Int)) : #[Value.int .u8 Z].toList = U8s [UInt8.ofNat v] := by
  subst hZ
  simp [U8s]
  omega
/-- One byte in a block of its own, as a text. -/
theorem conv_one (W : World) (v : Nat) (h : v < 256) (Z : Int) (hZ : Z = (v : Int)) (g : Nat) (hg : W.heap.size = g) : (convert 24 9 (.slice (some ⟨g, 0, none⟩) 1 1)).run Tryz.prog (W.alloc (.cells #[.int .u8 Z] 5)) = .ok (.string (str [UInt8.ofNat v])) (W.alloc (.cells #[.int .u8 Z] 5)) :=
  conv_bytes _ g 0 1 _ (bytes_at W _ _ g hg (u8s_one h hZ)) 1 rfl
set_option maxRecDepth 100000 in
set_option maxHeartbeats 4000000 in
theorem rhead_low (m n : Nat) (hm : m < 8) (hn : n < 24) (w : World) : Calls Tryz.prog 13 #[.int .i64 m, .int .u64 n] w fun e w' => e = .returned (.string (str (hds m n))) ∧ Below w.heap.size w w' := by
  rw [hds_low hn]
  obtain ⟨Z, hZ⟩ : ∃ Z : Int, bits .or .u8 ((m : Int) * 32) (n : Int) = Z := ⟨_, rfl⟩
  have hcv := conv_one w (m * 32 + n) (by omega) Z (by rw [← hZ, or8 m n hm (by omega)]) w.heap.size rfl
  have b0 : (m : Int) < 8 := by omega
  have b1 : (n : Int) < 24 := by omega
  obtain ⟨c, hc⟩ : ∃ c, UInt8.ofNat (m * 32 + n) = c := ⟨_, rfl⟩
  rw [hc] at hcv ⊢
  clear hm hn hc
  go_enter Tryz.func13, Tryz.ntmps13
  go_wp2
  go_ret
  exact ⟨rfl, bal (Below.refl _ _) _⟩
theorem conv_kept {W W' : World} {v g : Nat} (h : v < 256) {Z : Int} (hZ : Z = (v : Int)) (hg : W.heap.size = g) (hb : Below (W.alloc (.cells #[.int .u8 Z] 5)).heap.size (W.alloc (.cells #[.int .u8 Z] 5)) W') : (convert 24 9 (.slice (some ⟨g, 0, none⟩) 1 1)).run Tryz.prog W' = .ok (.string (str [UInt8.ofNat v])) W' :=
  conv_bytes _ g 0 1 _ ((bytes_at W _ _ g hg (u8s_one h hZ)).keep hb) 1 rfl
set_option maxRecDepth 1000000 in
set_option maxHeartbeats 4000000 in
theorem rhead_24 (m n : Nat) (hm : m < 8) (hn : n < 18446744073709551616) (h1 : 24 ≤ n) (h2 : n < 256) (w : World) : Calls Tryz.prog 13 #[.int .i64 m, .int .u64 n] w fun e w' => e = .returned (.string (str (UInt8.ofNat (m * 32 + 24) :: be n 1))) ∧ Below w.heap.size w w' := by
  obtain ⟨Z, hZ⟩ : ∃ Z : Int, bits .or .u8 ((m : Int) * 32) 24 = Z := ⟨_, rfl⟩
  have hv : Z = ((m * 32 + 24 : Nat) : Int) := by rw [← hZ]; exact or8 m 24 hm (by decide)
  have hv2 : m * 32 + 24 < 256 := by omega
  obtain ⟨v, hvv⟩ : ∃ v, m * 32 + 24 = v := ⟨_, rfl⟩
  rw [hvv] at hv hv2
  have HV := Lib.hid hv; have HV2 := Lib.hid hv2
  have hst := str_app [UInt8.ofNat v] (be n 1)
  obtain ⟨c, hc⟩ : ∃ c, UInt8.ofNat v = c := ⟨_, rfl⟩
  have HC := Lib.hid hc
  obtain ⟨N, hN⟩ : ∃ N : Int, (n : Int) = N := ⟨_, rfl⟩
  have KB : Hid (∀ W, Calls Tryz.prog 21 #[.int .u64 N, .int .i64 1] W fun e w' => e = .returned (.string (str (be n 1))) ∧ Below W.heap.size W w') := Lib.hid (fun W => by rw [← hN]; exact rbytes n 1 hn (by decide) W)
  have hcv := conv_one w v hv2 Z hv w.heap.size rfl
  have hcd := conv_kept hv2 hv (rfl : w.heap.size = w.heap.size) (Below.drew (Below.refl _ (w.alloc (.cells #[.int .u8 Z] 5))))
  have hce := conv_one w.drew v hv2 Z hv w.heap.size rfl
  have b0 : (m : Int) < 8 := by omega
  have c1 : ¬ N < 24 := by omega
  have c2 : N < 256 := by omega
  rw [hvv, hc]
  rw [hc] at hcv hcd hce hst
  clear hm hv hv2 hvv hc hn h1 h2
  obtain ⟨S, hS⟩ : ∃ S, str (c :: be n 1) = S := ⟨_, rfl⟩
  have hst2 : str [c] ++ str (be n 1) = S := by rw [hst]; exact hS
  rw [hS, hN]
  clear hst hS hN
  go_enter Tryz.func13, Tryz.ntmps13
  go_wp2_with fail
  go_region_with (go_at_call 21; ((with_reducible refine (KB.out _).mono ?_); rintro e wb ⟨rfl, hb⟩; first | (have hcb := conv_kept HV2.out HV.out rfl hb; rw [HC.out] at hcb; have hbw : Below w.heap.size w wb := btr (by repeat (first | (with_reducible exact Below.refl _ _) | (with_reducible refine bal ?_ _) | (with_reducible refine Below.drew ?_) | (with_reducible refine bdn ?_ _))) hb) | (have hcb := conv_kept (W := w) HV2.out HV.out rfl (btr (Below.drew (Below.refl _ _)) hb); rw [HC.out] at hcb; have hbw : Below w.heap.size w wb := btr (by repeat (first | (with_reducible exact Below.refl _ _) | (with_reducible refine bal ?_ _) | (with_reducible refine Below.drew ?_) | (with_reducible refine bdn ?_ _))) hb) | (have hcb := conv_kept (W := w.drew) (g := w.heap.size) HV2.out HV.out rfl hb; rw [HC.out] at hcb; have hbw : Below w.heap.size w wb := btr (by repeat (first | (with_reducible exact Below.refl _ _) | (with_reducible refine bal ?_ _) | (with_reducible refine Below.drew ?_) | (with_reducible refine bdn ?_ _))) hb) | (have hcb := conv_one wb _ HV2.out Z HV.out wb.heap.size rfl; rw [HC.out] at hcb; have hbw : Below w.heap.size w wb := btr (by repeat (first | (with_reducible exact Below.refl _ _) | (with_reducible refine bal ?_ _) | (with_reducible refine Below.drew ?_) | (with_reducible refine bdn ?_ _))) hb)))
  all_goals
    go_wp2
    go_ret
    exact ⟨rfl, by repeat (first | (with_reducible exact hbw) | (with_reducible refine bal ?_ _) | (with_reducible refine Below.drew ?_) | (with_reducible refine bdn ?_ _))⟩
set_option maxRecDepth 1000000 in
set_option maxHeartbeats 4000000 in
theorem rhead_25 (m n : Nat) (hm : m < 8) (hn : n < 18446744073709551616) (h1 : 256 ≤ n) (h2 : n < 65536) (w : World) : Calls Tryz.prog 13 #[.int .i64 m, .int .u64 n] w fun e w' => e = .returned (.string (str (UInt8.ofNat (m * 32 + 25) :: be n 2))) ∧ Below w.heap.size w w' := by
  obtain ⟨Z, hZ⟩ : ∃ Z : Int, bits .or .u8 ((m : Int) * 32) 25 = Z := ⟨_, rfl⟩
  have hv : Z = ((m * 32 + 25 : Nat) : Int) := by rw [← hZ]; exact or8 m 25 hm (by decide)
  have hv2 : m * 32 + 25 < 256 := by omega
  obtain ⟨v, hvv⟩ : ∃ v, m * 32 + 25 = v := ⟨_, rfl⟩
  rw [hvv] at hv hv2
  have HV := Lib.hid hv; have HV2 := Lib.hid hv2
  have hst := str_app [UInt8.ofNat v] (be n 2)
  obtain ⟨c, hc⟩ : ∃ c, UInt8.ofNat v = c := ⟨_, rfl⟩
  have HC := Lib.hid hc
  obtain ⟨N, hN⟩ : ∃ N : Int, (n : Int) = N := ⟨_, rfl⟩
  have KB : Hid (∀ W, Calls Tryz.prog 21 #[.int .u64 N, .int .i64 2] W fun e w' => e = .returned (.string (str (be n 2))) ∧ Below W.heap.size W w') := Lib.hid (fun W => by rw [← hN]; exact rbytes n 2 hn (by decide) W)
  have hcv := conv_one w v hv2 Z hv w.heap.size rfl
  have hcd := conv_kept hv2 hv (rfl : w.heap.size = w.heap.size) (Below.drew (Below.refl _ (w.alloc (.cells #[.int .u8 Z] 5))))
  have hce := conv_one w.drew v hv2 Z hv w.heap.size rfl
  have b0 : (m : Int) < 8 := by omega
  have c1 : ¬ N < 24 := by omega
  have c2 : ¬ N < 256 := by omega
  have c3 : N < 65536 := by omega
  rw [hvv, hc]
  rw [hc] at hcv hcd hce hst
  clear hm hv hv2 hvv hc hn h1 h2
  obtain ⟨S, hS⟩ : ∃ S, str (c :: be n 2) = S := ⟨_, rfl⟩
  have hst2 : str [c] ++ str (be n 2) = S := by rw [hst]; exact hS
  rw [hS, hN]
  clear hst hS hN
  go_enter Tryz.func13, Tryz.ntmps13
  go_wp2_with fail
  go_region_with (go_at_call 21; ((with_reducible refine (KB.out _).mono ?_); rintro e wb ⟨rfl, hb⟩; first | (have hcb := conv_kept HV2.out HV.out rfl hb; rw [HC.out] at hcb; have hbw : Below w.heap.size w wb := btr (by repeat (first | (with_reducible exact Below.refl _ _) | (with_reducible refine bal ?_ _) | (with_reducible refine Below.drew ?_) | (with_reducible refine bdn ?_ _))) hb) | (have hcb := conv_kept (W := w) HV2.out HV.out rfl (btr (Below.drew (Below.refl _ _)) hb); rw [HC.out] at hcb; have hbw : Below w.heap.size w wb := btr (by repeat (first | (with_reducible exact Below.refl _ _) | (with_reducible refine bal ?_ _) | (with_reducible refine Below.drew ?_) | (with_reducible refine bdn ?_ _))) hb) | (have hcb := conv_kept (W := w.drew) (g := w.heap.size) HV2.out HV.out rfl hb; rw [HC.out] at hcb; have hbw : Below w.heap.size w wb := btr (by repeat (first | (with_reducible exact Below.refl _ _) | (with_reducible refine bal ?_ _) | (with_reducible refine Below.drew ?_) | (with_reducible refine bdn ?_ _))) hb) | (have hcb := conv_one wb _ HV2.out Z HV.out wb.heap.size rfl; rw [HC.out] at hcb; have hbw : Below w.heap.size w wb := btr (by repeat (first | (with_reducible exact Below.refl _ _) | (with_reducible refine bal ?_ _) | (with_reducible refine Below.drew ?_) | (with_reducible refine bdn ?_ _))) hb)))
  all_goals
    go_wp2
    go_ret
    exact ⟨rfl, by repeat (first | (with_reducible exact hbw) | (with_reducible refine bal ?_ _) | (with_reducible refine Below.drew ?_) | (with_reducible refine bdn ?_ _))⟩
set_option maxRecDepth 1000000 in
set_option maxHeartbeats 4000000 in
theorem rhead_26 (m n : Nat) (hm : m < 8) (hn : n < 18446744073709551616) (h1 : 65536 ≤ n) (h2 : n < 4294967296) (w : World) : Calls Tryz.prog 13 #[.int .i64 m, .int .u64 n] w fun e w' => e = .returned (.string (str (UInt8.ofNat (m * 32 + 26) :: be n 4))) ∧ Below w.heap.size w w' := by
  obtain ⟨Z, hZ⟩ : ∃ Z : Int, bits .or .u8 ((m : Int) * 32) 26 = Z := ⟨_, rfl⟩
  have hv : Z = ((m * 32 + 26 : Nat) : Int) := by rw [← hZ]; exact or8 m 26 hm (by decide)
  have hv2 : m * 32 + 26 < 256 := by omega
  obtain ⟨v, hvv⟩ : ∃ v, m * 32 + 26 = v := ⟨_, rfl⟩
  rw [hvv] at hv hv2
  have HV := Lib.hid hv; have HV2 := Lib.hid hv2
  have hst := str_app [UInt8.ofNat v] (be n 4)
  obtain ⟨c, hc⟩ : ∃ c, UInt8.ofNat v = c := ⟨_, rfl⟩
  have HC := Lib.hid hc
  obtain ⟨N, hN⟩ : ∃ N : Int, (n : Int) = N := ⟨_, rfl⟩
  have KB : Hid (∀ W, Calls Tryz.prog 21 #[.int .u64 N, .int .i64 4] W fun e w' => e = .returned (.string (str (be n 4))) ∧ Below W.heap.size W w') := Lib.hid (fun W => by rw [← hN]; exact rbytes n 4 hn (by decide) W)
  have hcv := conv_one w v hv2 Z hv w.heap.size rfl
  have hcd := conv_kept hv2 hv (rfl : w.heap.size = w.heap.size) (Below.drew (Below.refl _ (w.alloc (.cells #[.int .u8 Z] 5))))
  have hce := conv_one w.drew v hv2 Z hv w.heap.size rfl
  have b0 : (m : Int) < 8 := by omega
  have c1 : ¬ N < 24 := by omega
  have c2 : ¬ N < 256 := by omega
  have c3 : ¬ N < 65536 := by omega
  have c4 : N < 4294967296 := by omega
  rw [hvv, hc]
  rw [hc] at hcv hcd hce hst
  clear hm hv hv2 hvv hc hn h1 h2
  obtain ⟨S, hS⟩ : ∃ S, str (c :: be n 4) = S := ⟨_, rfl⟩
  have hst2 : str [c] ++ str (be n 4) = S := by rw [hst]; exact hS
  rw [hS, hN]
  clear hst hS hN
  go_enter Tryz.func13, Tryz.ntmps13
  go_wp2_with fail
  go_region_with (go_at_call 21; ((with_reducible refine (KB.out _).mono ?_); rintro e wb ⟨rfl, hb⟩; first | (have hcb := conv_kept HV2.out HV.out rfl hb; rw [HC.out] at hcb; have hbw : Below w.heap.size w wb := btr (by repeat (first | (with_reducible exact Below.refl _ _) | (with_reducible refine bal ?_ _) | (with_reducible refine Below.drew ?_) | (with_reducible refine bdn ?_ _))) hb) | (have hcb := conv_kept (W := w) HV2.out HV.out rfl (btr (Below.drew (Below.refl _ _)) hb); rw [HC.out] at hcb; have hbw : Below w.heap.size w wb := btr (by repeat (first | (with_reducible exact Below.refl _ _) | (with_reducible refine bal ?_ _) | (with_reducible refine Below.drew ?_) | (with_reducible refine bdn ?_ _))) hb) | (have hcb := conv_kept (W := w.drew) (g := w.heap.size) HV2.out HV.out rfl hb; rw [HC.out] at hcb; have hbw : Below w.heap.size w wb := btr (by repeat (first | (with_reducible exact Below.refl _ _) | (with_reducible refine bal ?_ _) | (with_reducible refine Below.drew ?_) | (with_reducible refine bdn ?_ _))) hb) | (have hcb := conv_one wb _ HV2.out Z HV.out wb.heap.size rfl; rw [HC.out] at hcb; have hbw : Below w.heap.size w wb := btr (by repeat (first | (with_reducible exact Below.refl _ _) | (with_reducible refine bal ?_ _) | (with_reducible refine Below.drew ?_) | (with_reducible refine bdn ?_ _))) hb)))
  all_goals
    go_wp2
    go_ret
    exact ⟨rfl, by repeat (first | (with_reducible exact hbw) | (with_reducible refine bal ?_ _) | (with_reducible refine Below.drew ?_) | (with_reducible refine bdn ?_ _))⟩
set_option maxRecDepth 1000000 in
set_option maxHeartbeats 4000000 in
theorem rhead_27 (m n : Nat) (hm : m < 8) (hn : n < 18446744073709551616) (h1 : 4294967296 ≤ n) (w : World) : Calls Tryz.prog 13 #[.int .i64 m, .int .u64 n] w fun e w' => e = .returned (.string (str (UInt8.ofNat (m * 32 + 27) :: be n 8))) ∧ Below w.heap.size w w' := by
  obtain ⟨Z, hZ⟩ : ∃ Z : Int, bits .or .u8 ((m : Int) * 32) 27 = Z := ⟨_, rfl⟩
  have hv : Z = ((m * 32 + 27 : Nat) : Int) := by rw [← hZ]; exact or8 m 27 hm (by decide)
  have hv2 : m * 32 + 27 < 256 := by omega
  obtain ⟨v, hvv⟩ : ∃ v, m * 32 + 27 = v := ⟨_, rfl⟩
  rw [hvv] at hv hv2
  have HV := Lib.hid hv; have HV2 := Lib.hid hv2
  have hst := str_app [UInt8.ofNat v] (be n 8)
  obtain ⟨c, hc⟩ : ∃ c, UInt8.ofNat v = c := ⟨_, rfl⟩
  have HC := Lib.hid hc
  obtain ⟨N, hN⟩ : ∃ N : Int, (n : Int) = N := ⟨_, rfl⟩
  have KB : Hid (∀ W, Calls Tryz.prog 21 #[.int .u64 N, .int .i64 8] W fun e w' => e = .returned (.string (str (be n 8))) ∧ Below W.heap.size W w') := Lib.hid (fun W => by rw [← hN]; exact rbytes n 8 hn (by decide) W)
  have hcv := conv_one w v hv2 Z hv w.heap.size rfl
  have hcd := conv_kept hv2 hv (rfl : w.heap.size = w.heap.size) (Below.drew (Below.refl _ (w.alloc (.cells #[.int .u8 Z] 5))))
  have hce := conv_one w.drew v hv2 Z hv w.heap.size rfl
  have b0 : (m : Int) < 8 := by omega
  have c1 : ¬ N < 24 := by omega
  have c2 : ¬ N < 256 := by omega
  have c3 : ¬ N < 65536 := by omega
  have c4 : ¬ N < 4294967296 := by omega
  rw [hvv, hc]
  rw [hc] at hcv hcd hce hst
  clear hm hv hv2 hvv hc hn h1
  obtain ⟨S, hS⟩ : ∃ S, str (c :: be n 8) = S := ⟨_, rfl⟩
  have hst2 : str [c] ++ str (be n 8) = S := by rw [hst]; exact hS
  rw [hS, hN]
  clear hst hS hN
  go_enter Tryz.func13, Tryz.ntmps13
  go_wp2_with fail
  go_region_with (go_at_call 21; ((with_reducible refine (KB.out _).mono ?_); rintro e wb ⟨rfl, hb⟩; first | (have hcb := conv_kept HV2.out HV.out rfl hb; rw [HC.out] at hcb; have hbw : Below w.heap.size w wb := btr (by repeat (first | (with_reducible exact Below.refl _ _) | (with_reducible refine bal ?_ _) | (with_reducible refine Below.drew ?_) | (with_reducible refine bdn ?_ _))) hb) | (have hcb := conv_kept (W := w) HV2.out HV.out rfl (btr (Below.drew (Below.refl _ _)) hb); rw [HC.out] at hcb; have hbw : Below w.heap.size w wb := btr (by repeat (first | (with_reducible exact Below.refl _ _) | (with_reducible refine bal ?_ _) | (with_reducible refine Below.drew ?_) | (with_reducible refine bdn ?_ _))) hb) | (have hcb := conv_kept (W := w.drew) (g := w.heap.size) HV2.out HV.out rfl hb; rw [HC.out] at hcb; have hbw : Below w.heap.size w wb := btr (by repeat (first | (with_reducible exact Below.refl _ _) | (with_reducible refine bal ?_ _) | (with_reducible refine Below.drew ?_) | (with_reducible refine bdn ?_ _))) hb) | (have hcb := conv_one wb _ HV2.out Z HV.out wb.heap.size rfl; rw [HC.out] at hcb; have hbw : Below w.heap.size w wb := btr (by repeat (first | (with_reducible exact Below.refl _ _) | (with_reducible refine bal ?_ _) | (with_reducible refine Below.drew ?_) | (with_reducible refine bdn ?_ _))) hb)))
  all_goals
    go_wp2
    go_ret
    exact ⟨rfl, by repeat (first | (with_reducible exact hbw) | (with_reducible refine bal ?_ _) | (with_reducible refine Below.drew ?_) | (with_reducible refine bdn ?_ _))⟩
theorem rhead (m n : Nat) (hm : m < 8) (hn : n < 18446744073709551616) (w : World) : Calls Tryz.prog 13 #[.int .i64 m, .int .u64 n] w fun e w' => e = .returned (.string (str (hds m n))) ∧ Below w.heap.size w w' := by
  by_cases h1 : n < 24
  · exact rhead_low m n hm h1 w
  unfold hds hby
  by_cases h2 : n < 256
  · rw [show sinf n = 24 by unfold sinf; rw [if_neg h1, if_pos h2], hsz_24]; exact rhead_24 m n hm hn (by omega) h2 w
  by_cases h3 : n < 65536
  · rw [show sinf n = 25 by unfold sinf; rw [if_neg h1, if_neg h2, if_pos h3], hsz_25]; exact rhead_25 m n hm hn (by omega) h3 w
  by_cases h4 : n < 4294967296
  · rw [show sinf n = 26 by unfold sinf; rw [if_neg h1, if_neg h2, if_neg h3, if_pos h4], hsz_26]; exact rhead_26 m n hm hn (by omega) h4 w
  · rw [show sinf n = 27 by unfold sinf; rw [if_neg h1, if_neg h2, if_neg h3, if_neg h4], hsz_27]; exact rhead_27 m n hm hn (by omega) w
end Go.Proofs.YtfaaagmjmljhiaaGreatDoor
end
section
namespace Go.Proofs.YtfaaagmjmljhiaaGreatDoor
open Go.RowKit Go.Shelf
open Go.Sort (grow)
set_option linter.unusedVariables false

theorem blen_64 {x : Nat} (h : x < 18446744073709551616) : blen x ≤ 64 := by
  rcases Nat.lt_or_ge 64 (blen x) with h1 | h1
  · exfalso
    by_cases h0 : x = 0
    · subst h0; exact absurd h1 (by decide)
    · have h2 := (blen_spec h0).2.1
      have h3 : 2 ^ 64 ≤ 2 ^ (blen x - 1) := Nat.pow_le_pow_right (by decide) (by omega)
      omega
  · exact h1
theorem lb0_small {x : Nat} (h : x < 18446744073709551616) : lb 0 x = (x : Int) := by
  have := (lb_small (v := (x : Int)) (by omega) (by omega)).1
  rw [Int.natAbs_natCast] at this
  exact this
theorem digs_64 {x : Nat} (h : x < 2 ^ 256) : (digs x).length ≤ 1000 := Nat.le_trans (digs_len.2 (show x < 2 ^ (32 * 8) from h)) (by decide)
theorem rnat_yes {s : Value} {x : Nat} {w : World} (hx : DR w s x) (h : x < 2 ^ 256) : Calls Tryz.prog 63 #[s] w fun e w' => e = .returned (.tuple #[N4 x, .bool true]) ∧ Below w.heap.size w w' := by
  have := rnat hx
  rw [if_pos h] at this
  exact this
set_option maxRecDepth 100000 in
set_option maxHeartbeats 4000000 in
theorem rwhole_pos (x : Nat) (hx : x < 18446744073709551616) (w : World) : Calls Tryz.prog 37 #[.agg #[.bool false, .int .u64 (lb 0 x), .int .u64 (lb 1 x), .int .u64 (lb 2 x), .int .u64 (lb 3 x)]] w fun e w' => e = .returned (.string (str (hds 0 x))) ∧ Below w.heap.size w w' := by
  have h256 : x < 2 ^ 256 := Nat.lt_of_lt_of_le hx (by decide)
  have HX := Lib.hid h256
  have LX := Lib.hid (digs_64 h256)
  have hle : (blen x : Int) ≤ 64 := by have := blen_64 hx; omega
  have KH : Hid (∀ W, Calls Tryz.prog 13 #[.int .i64 0, .int .u64 (lb 0 x)] W fun e w' => e = .returned (.string (str (hds 0 x))) ∧ Below W.heap.size W w') := Lib.hid (fun W => by rw [lb0_small hx]; exact rhead 0 x (by decide) hx W)
  clear hx h256
  go_enter Tryz.func37, Tryz.ntmps37
  go_wp2_with fail
  refine (rof x HX.out _).mono ?_
  rintro e w1 ⟨s1, rfl, hr, hb⟩
  have R1 := Row5.keep hb (Row5.new w (.bool false) (.int .u64 (lb 0 x)) (.int .u64 (lb 1 x)) (.int .u64 (lb 2 x)) (.int .u64 (lb 3 x)))
  have B1 := Lib.hid (btr (bal (Below.refl w.heap.size w) _) hb)
  have D1 := Lib.hid hr
  clear hb hr
  obtain ⟨c0, c1, c2, c3, c4⟩ := R1.parts
  go_wp2_with fail
  ((with_reducible refine (rnat_yes D1.out HX.out).mono ?_); rintro e w2 ⟨rfl, hb⟩)
  have B2 := Lib.hid (bal (btr B1.out hb) (.cells #[.int .u64 (lb 0 x), .int .u64 (lb 1 x), .int .u64 (lb 2 x), .int .u64 (lb 3 x)] 28))
  have D2 := Lib.hid (DR.keep (bal hb (.cells #[.int .u64 (lb 0 x), .int .u64 (lb 1 x), .int .u64 (lb 2 x), .int .u64 (lb 3 x)] 28)) D1.out)
  have N2 := Row4.new w2 (.int .u64 (lb 0 x)) (.int .u64 (lb 1 x)) (.int .u64 (lb 2 x)) (.int .u64 (lb 3 x))
  clear hb c0 c1 c2 c3 c4 R1
  obtain ⟨n0, n1, n2, n3⟩ := N2.four
  go_wp2_with fail
  ((with_reducible refine (rlen D2.out LX.out).mono ?_); rintro e w3 ⟨rfl, rfl⟩)
  go_wp2_with fail
  ((with_reducible refine (KH.out _).mono ?_); rintro e w4 ⟨rfl, hb⟩)
  go_wp2
  go_ret
  exact ⟨rfl, btr B2.out hb⟩
set_option maxRecDepth 100000 in
set_option maxHeartbeats 4000000 in
theorem rwhole_neg (y : Nat) (hy : y < 18446744073709551616) (w : World) : Calls Tryz.prog 37 #[.agg #[.bool true, .int .u64 (lb 0 (y + 1)), .int .u64 (lb 1 (y + 1)), .int .u64 (lb 2 (y + 1)), .int .u64 (lb 3 (y + 1))]] w fun e w' => e = .returned (.string (str (hds 1 y))) ∧ Below w.heap.size w w' := by
  obtain ⟨x, hx⟩ : ∃ x, y + 1 = x := ⟨_, rfl⟩
  rw [hx]
  have h256 : y < 2 ^ 256 := Nat.lt_of_lt_of_le hy (by decide)
  have h257 : x < 2 ^ 256 := by rw [← hx]; exact Nat.lt_of_le_of_lt (show y + 1 ≤ 18446744073709551616 by omega) (by decide)
  have HX := Lib.hid h257; have HY := Lib.hid h256
  have LX := Lib.hid (digs_64 h257); have LY := Lib.hid (digs_64 h256)
  have hle : (blen y : Int) ≤ 64 := by have := blen_64 hy; omega
  have KH : Hid (∀ W, Calls Tryz.prog 13 #[.int .i64 1, .int .u64 (lb 0 y)] W fun e w' => e = .returned (.string (str (hds 1 y))) ∧ Below W.heap.size W w') := Lib.hid (fun W => by rw [lb0_small hy]; exact rhead 1 y (by decide) hy W)
  have H1 : Hid (1 ≤ x) := Lib.hid (by omega)
  have H2 : Hid (x - 1 = y) := Lib.hid (by omega)
  clear hy h256 h257 hx
  go_enter Tryz.func37, Tryz.ntmps37
  go_wp2_with fail
  refine (rof x HX.out _).mono ?_
  rintro e w1 ⟨s1, rfl, hr, hb⟩
  have R1 := Row5.keep hb (Row5.new w (.bool true) (.int .u64 (lb 0 x)) (.int .u64 (lb 1 x)) (.int .u64 (lb 2 x)) (.int .u64 (lb 3 x)))
  have B1 := Lib.hid (bal (btr (bal (Below.refl w.heap.size w) _) hb) (.cells #[.int .u32 1] 92))
  have D1 := Lib.hid (DR.keep (bal (Below.refl _ _) (.cells #[.int .u32 1] 92)) hr)
  have O1 := Lib.hid (ten_new w1 1 (by decide) (by decide) 1 rfl)
  have KS : Hid (Calls Tryz.prog 62 #[s1, .slice (some ⟨w1.heap.size, 0, none⟩) 1 1] (w1.alloc (.cells #[.int .u32 1] 92)) fun e w' => ∃ s', e = .returned s' ∧ DR w' s' y ∧ Below (w1.alloc (.cells #[.int .u32 1] 92)).heap.size (w1.alloc (.cells #[.int .u32 1] 92)) w') := Lib.hid (by have := rsub D1.out O1.out LX.out H1.out; rw [H2.out] at this; exact this)
  clear hb hr
  obtain ⟨c0, c1, c2, c3, c4⟩ := R1.parts
  go_wp2_with fail
  ((with_reducible refine (KS.out).mono ?_); rintro e w2 ⟨s2, rfl, hr, hb⟩)
  have B2 := Lib.hid (btr B1.out hb)
  have D2 := Lib.hid hr
  clear hb hr c0 c1 c2 c3 c4 R1 D1 O1 KS
  go_wp2_with fail
  ((with_reducible refine (rnat_yes D2.out HY.out).mono ?_); rintro e w3 ⟨rfl, hb⟩)
  have B3 := Lib.hid (bal (btr B2.out hb) (.cells #[.int .u64 (lb 0 y), .int .u64 (lb 1 y), .int .u64 (lb 2 y), .int .u64 (lb 3 y)] 28))
  have D3 := Lib.hid (DR.keep (bal hb (.cells #[.int .u64 (lb 0 y), .int .u64 (lb 1 y), .int .u64 (lb 2 y), .int .u64 (lb 3 y)] 28)) D2.out)
  have N3 := Row4.new w3 (.int .u64 (lb 0 y)) (.int .u64 (lb 1 y)) (.int .u64 (lb 2 y)) (.int .u64 (lb 3 y))
  clear hb
  obtain ⟨n0, n1, n2, n3⟩ := N3.four
  go_wp2_with fail
  ((with_reducible refine (rlen D3.out LY.out).mono ?_); rintro e w4 ⟨rfl, rfl⟩)
  go_wp2_with fail
  ((with_reducible refine (KH.out _).mono ?_); rintro e w5 ⟨rfl, hb⟩)
  go_wp2
  go_ret
  exact ⟨rfl, btr B3.out hb⟩
/-- A whole number that a head can say. -/
def headI (g : Bool) (y : Nat) : Nat := if g then y + 1 else y
theorem intB_head (g : Bool) (y : Nat) (hy : y < 18446744073709551616) : intB g (headI g y) = hds (if g then 1 else 0) y := by
  unfold intB headI natB
  cases g with
  | false =>
    show (if y < 18446744073709551616 then hds 0 y else _) = hds 0 y
    rw [if_pos hy]
  | true =>
    show (if y + 1 - 1 < 18446744073709551616 then hds 1 (y + 1 - 1) else _) = hds 1 y
    rw [Nat.add_sub_cancel, if_pos hy]
theorem rwhole_any (g : Bool) (y : Nat) (hy : y < 18446744073709551616) (w : World) : Calls Tryz.prog 37 #[.agg #[.bool g, .int .u64 (lb 0 (headI g y)), .int .u64 (lb 1 (headI g y)), .int .u64 (lb 2 (headI g y)), .int .u64 (lb 3 (headI g y))]] w fun e w' => e = .returned (.string (str (intB g (headI g y)))) ∧ Below w.heap.size w w' := by
  rw [intB_head g y hy]
  cases g with
  | false => exact rwhole_pos y hy w
  | true => exact rwhole_neg y hy w
set_option maxRecDepth 100000 in
set_option maxHeartbeats 4000000 in
theorem ritem_int (g : Bool) (y : Nat) (hy : y < 18446744073709551616) (w : World) : Calls Tryz.prog 20 #[V10 3 g (lb 0 (headI g y)) (lb 1 (headI g y)) (lb 2 (headI g y)) (lb 3 (headI g y)) 0 ⟨#[]⟩ none 0 0 none 0 0] w fun e w' => e = .returned (.string (str (intB g (headI g y)))) ∧ Below w.heap.size w w' := by
  have KW := Lib.hid (fun W => rwhole_any g y hy W)
  obtain ⟨x, hx⟩ : ∃ x, headI g y = x := ⟨_, rfl⟩
  rw [hx] at KW ⊢
  clear hx hy
  have R0 := Row10.new w (.int .i64 3) (.bool g) (.int .u64 (lb 0 x)) (.int .u64 (lb 1 x)) (.int .u64 (lb 2 x)) (.int .u64 (lb 3 x)) (.int .u64 0) (.string ⟨#[]⟩) (.slice none 0 0) (.slice none 0 0)
  obtain ⟨p0, p1, p2, p3, p4, p5, p6, p7, p8, p9⟩ := R0.parts
  go_enter Tryz.func20, Tryz.ntmps20
  go_wp2_with fail
  ((with_reducible refine (KW.out _).mono ?_); rintro e w1 ⟨rfl, hb⟩)
  go_wp2
  go_ret
  exact ⟨rfl, btr (bal (Below.refl _ _) _) hb⟩
/-- Such a number as a value. -/
def leafG (g : Bool) (x : Nat) : VT := .mk ⟨3, g, x, 0, ⟨#[]⟩, none, 0, none, 0, []⟩ []
theorem leafG_in (g : Bool) (x : Nat) (hx : x < 2 ^ 256) (w : World) : (leafG g x).In w :=
  .mk _ _ ⟨⟨by show _ ≤ (3 : Int); omega, by show (3 : Int) ≤ _; omega⟩, hx, ⟨Int.le_refl _, by show (0 : Int) ≤ _; omega⟩, Nat.zero_le _, ⟨Nat.le_refl _, Nat.zero_le _⟩, ⟨Nat.le_refl _, Nat.zero_le _⟩, fun s h => by cases h⟩
    ⟨0, 0, fun h => absurd h (by simp), fun i s h => by simp at h⟩ ⟨0, 0, fun h => absurd h (by simp), fun i s h => by simp at h⟩ (fun i t h => by simp at h)
theorem leafG_q (g : Bool) (x : Nat) (hx : x < 2 ^ 256) (w : World) (hT : Tb w) : Qv (leafG g x) w :=
  ⟨leafG_in g x hx w, hT, .mk _ _ ⟨Nat.zero_le _, fun s h => by cases h⟩ (fun t h => by cases h)⟩
theorem headI_lt (g : Bool) {y : Nat} (hy : y < 18446744073709551616) : headI g y < 2 ^ 256 := by
  have : headI g y ≤ 18446744073709551616 := by unfold headI; split <;> omega
  exact Nat.lt_of_le_of_lt this (by decide)
theorem headI_ok (g : Bool) {y : Nat} (hy : y < 18446744073709551616) : okI g (headI g y) = true := by
  have h := eq5_int g true (headI g y) 0 (headI_lt g hy) (by decide)
  rw [lb_zero, lb_zero, lb_zero, lb_zero] at h
  unfold okI
  rw [h]
  cases g with
  | false => rfl
  | true => simp [headI]
theorem leafG_may (g : Bool) {y : Nat} (hy : y < 18446744073709551616) : mayN (leafG g (headI g y)) = 0 := by
  have ho : outB (leafG g (headI g y)).o 0 = true := by
    show eqO 3 g (lb 0 (headI g y)) (lb 1 (headI g y)) (lb 2 (headI g y)) (lb 3 (headI g y)) 0 ⟨#[]⟩ ((0 : Nat) : Int) ((0 : Nat) : Int) 3 g (lb 0 (headI g y)) (lb 1 (headI g y)) (lb 2 (headI g y)) (lb 3 (headI g y)) 0 ⟨#[]⟩ ((0 : Nat) : Int) ((0 : Nat) : Int) = true
    exact eqO_same _ _ _ _ _ _ _ _ _ _
  have hq : wrongT (leafG g (headI g y)) = false := by
    have : ownB (leafG g (headI g y)).o 0 = true := by
      unfold ownB
      rw [ho]
      show (true && okI g (headI g y)) = true
      rw [headI_ok g hy]; rfl
    show (!ownB (leafG g (headI g y)).o 0) = false
    rw [this]; rfl
  have hd : (leafG g (headI g y)).depth = 1 := by unfold leafG; rw [VT.depth_mk]; rfl
  have hh : ∀ p : VT → Bool, hasT p (leafG g (headI g y)) = p (leafG g (headI g y)) := fun p => by rw [hasT_mk]; simp [leafG]
  unfold mayN
  rw [hd, if_neg (by omega), hh, show overT (leafG g (headI g y)) = false from rfl, if_neg (by simp), hh, hq, if_neg (by simp)]
set_option maxRecDepth 100000 in
set_option maxHeartbeats 4000000 in
theorem renc_int (g : Bool) (y : Nat) (hy : y < 18446744073709551616) (w : World) (hT : Tb w) : Calls Tryz.prog 11 #[V10 3 g (lb 0 (headI g y)) (lb 1 (headI g y)) (lb 2 (headI g y)) (lb 3 (headI g y)) 0 ⟨#[]⟩ none 0 0 none 0 0] w fun e w' => e = .returned (.tuple #[.string (str (intB g (headI g y))), .int .i64 0]) ∧ Below w.heap.size w w' := by
  have KM := Lib.hid (fun W (hW : Below w.heap.size w W) => show Calls Tryz.prog 19 #[V10 3 g (lb 0 (headI g y)) (lb 1 (headI g y)) (lb 2 (headI g y)) (lb 3 (headI g y)) 0 ⟨#[]⟩ none 0 0 none 0 0] W fun e w' => e = .returned (.int .i64 0) ∧ Below W.heap.size W w' from by
    have := r6may_few (leafG g (headI g y)) W (leafG_q g _ (headI_lt g hy) W (tb_on hT hW)) (by unfold leafG; rw [VT.nodes_mk]; decide) (by unfold leafG; rw [VT.depth_mk]; decide) (.mk _ _ ⟨Nat.zero_le _, Nat.zero_le _, fun s h => by cases h⟩ (fun t h => by cases h))
    rw [leafG_may g hy] at this
    exact this)
  have KI := Lib.hid (fun W => ritem_int g y hy W)
  have hl : (str (intB g (headI g y))).size ≤ 9 := by rw [str_size, intB_head g y hy]; exact hds_len _ _
  obtain ⟨S, hS⟩ : ∃ S, str (intB g (headI g y)) = S := ⟨_, rfl⟩
  obtain ⟨x, hx⟩ : ∃ x, headI g y = x := ⟨_, rfl⟩
  rw [hS] at KI hl ⊢
  rw [hx] at KM KI ⊢
  have h65 : ¬ (65536 : Int) < (S.size : Int) := by omega
  clear hS hx hy hT hl
  have R0 := Row10.new w (.int .i64 3) (.bool g) (.int .u64 (lb 0 x)) (.int .u64 (lb 1 x)) (.int .u64 (lb 2 x)) (.int .u64 (lb 3 x)) (.int .u64 0) (.string ⟨#[]⟩) (.slice none 0 0) (.slice none 0 0)
  obtain ⟨p0, p1, p2, p3, p4, p5, p6, p7, p8, p9⟩ := R0.parts
  have B0 := Lib.hid (bal (Below.refl w.heap.size w) (.cells #[.int .i64 3, .bool g, .int .u64 (lb 0 x), .int .u64 (lb 1 x), .int .u64 (lb 2 x), .int .u64 (lb 3 x), .int .u64 0, .string ⟨#[]⟩, .slice none 0 0, .slice none 0 0] 33))
  go_enter Tryz.func11, Tryz.ntmps11
  go_wp2_with fail
  ((with_reducible refine (KM.out _ B0.out).mono ?_); rintro e w1 ⟨rfl, hb⟩)
  have B1 := Lib.hid (btr B0.out hb)
  have R1 := Row10.keep hb R0
  clear hb p0 p1 p2 p3 p4 p5 p6 p7 p8 p9
  obtain ⟨p0, p1, p2, p3, p4, p5, p6, p7, p8, p9⟩ := R1.parts
  go_wp2_with fail
  ((with_reducible refine (KI.out _).mono ?_); rintro e w2 ⟨rfl, hb⟩)
  have B2 := Lib.hid (btr B1.out hb)
  clear hb
  go_wp2
  go_ret2
  exact ⟨rfl, B2.out⟩
end Go.Proofs.YtfaaagmjmljhiaaGreatDoor
end
section
namespace Go.Proofs.YtfaaagmjmljhiaaGreatDoor
open Go.RowKit Go.Shelf
open Go.Sort (grow)
set_option linter.unusedVariables false

theorem be_split (x b : Nat) : ∀ a, be x (a + b) = be (x / 256 ^ b) a ++ be x b
  | 0 => by rw [Nat.zero_add]; rfl
  | a + 1 => by
    rw [show a + 1 + b = (a + b) + 1 by omega, be_succ, be_succ, be_split x b a, Nat.div_div_eq_div_mul, ← Nat.pow_add, Nat.add_comm b a]
    rfl
theorem be_mod (x K : Nat) : ∀ k, k ≤ K → be (x % 256 ^ K) k = be x k
  | 0, _ => rfl
  | k + 1, h => by
    rw [be_succ, be_succ, be_mod x K k (by omega)]
    congr 1
    apply UInt8.toNat_inj.1
    rw [UInt8.toNat_ofNat', UInt8.toNat_ofNat']
    obtain ⟨d, rfl⟩ : ∃ d, K = k + (d + 1) := ⟨K - k - 1, by omega⟩
    rw [Nat.pow_add, Nat.mod_mul_right_div_self, Nat.pow_succ, Nat.mod_mul_left_mod]
theorem be_lb (x i : Nat) : be (lb i x).toNat 8 = be (x / 256 ^ (8 * i)) 8 := by
  have e : (lb i x).toNat = (x / 256 ^ (8 * i)) % 256 ^ 8 := by
    unfold lb
    rw [Int.toNat_natCast, show (18446744073709551616 : Nat) = 256 ^ 8 by decide, show (256 : Nat) = 2 ^ 8 by decide, ← Nat.pow_mul, ← Nat.pow_mul, show 8 * (8 * i) = 64 * i by omega]
  rw [e, be_mod _ _ 8 (Nat.le_refl _)]
/-- The 32 bytes of a number. -/
theorem be_32 (x : Nat) : be (lb 3 x).toNat 8 ++ be (lb 2 x).toNat 8 ++ be (lb 1 x).toNat 8 ++ be (lb 0 x).toNat 8 = be x 32 := by
  rw [be_lb, be_lb, be_lb, be_lb, show (32 : Nat) = (8 + 8 + 8) + 8 from rfl, be_split x 8 (8 + 8 + 8), be_split (x / 256 ^ 8) 8 (8 + 8), be_split (x / 256 ^ 8 / 256 ^ 8) 8 8]
  simp only [Nat.div_div_eq_div_mul, ← Nat.pow_add]
  simp
/-- How many bytes a number has. -/
theorem nbytes (x : Nat) (h0 : x ≠ 0) : x < 256 ^ ((blen x + 7) / 8) ∧ 256 ^ ((blen x + 7) / 8 - 1) ≤ x ∧ 0 < (blen x + 7) / 8 := by
  obtain ⟨h1, h2, h3⟩ := blen_spec h0
  have e : ∀ k, 256 ^ k = 2 ^ (8 * k) := fun k => by rw [show (256 : Nat) = 2 ^ 8 by decide, ← Nat.pow_mul]
  refine ⟨?_, ?_, ?_⟩
  · rw [e]
    exact Nat.lt_of_lt_of_le h3 (Nat.pow_le_pow_right (by decide) (by omega))
  · rw [e]
    exact Nat.le_trans (Nat.pow_le_pow_right (by decide) (by omega)) h2
  · omega
theorem byte_zero {x t : Nat} (h : x < 256 ^ t) : UInt8.ofNat (x / 256 ^ t) = 0 := by
  rw [Nat.div_eq_of_lt h]; rfl
theorem byte_first {x t : Nat} (h1 : 256 ^ t ≤ x) (h2 : x < 256 ^ (t + 1)) : UInt8.ofNat (x / 256 ^ t) ≠ 0 := by
  intro h
  have h3 := congrArg UInt8.toNat h
  rw [UInt8.toNat_ofNat'] at h3
  have h4 : x / 256 ^ t < 256 := by
    rw [Nat.div_lt_iff_lt_mul (Nat.pow_pos (by decide)), Nat.mul_comm, ← Nat.pow_succ]; exact h2
  have h5 : 1 ≤ x / 256 ^ t := (Nat.le_div_iff_mul_le (Nat.pow_pos (by decide))).2 (by omega)
  rw [Nat.mod_eq_of_lt (by omega)] at h3
  have : (0 : UInt8).toNat = 0 := rfl
  omega
end Go.Proofs.YtfaaagmjmljhiaaGreatDoor
end
section
namespace Go.Proofs.YtfaaagmjmljhiaaGreatDoor
open Go.RowKit Go.Shelf
open Go.Sort (grow)
set_option linter.unusedVariables false

set_option maxRecDepth 100000 in
set_option maxHeartbeats 8000000 in
theorem rwhole_bigpos (y : Nat) (hy : ¬ y < 18446744073709551616) (h256 : y < 2 ^ 256) (w : World) : Calls Tryz.prog 37 #[.agg #[.bool false, .int .u64 (lb 0 y), .int .u64 (lb 1 y), .int .u64 (lb 2 y), .int .u64 (lb 3 y)]] w fun e w' => e = .returned (.string (str (natB 0 2 y))) ∧ Below w.heap.size w w' := by
  have hy0 : y ≠ 0 := by omega
  have hy256 : y < 2 ^ 256 := by omega
  have e : natB 0 2 y = hds 6 2 ++ (hds 2 ((blen y + 7) / 8) ++ be y ((blen y + 7) / 8)) := by unfold natB; rw [if_neg hy]
  rw [e]
  clear e
  obtain ⟨z1, z2, z3⟩ := nbytes y hy0
  have hle : ¬ (blen y : Int) ≤ 64 := by
    intro h
    have h1 := (blen_spec hy0).2.2
    have h2 : 2 ^ blen y ≤ 2 ^ 64 := Nat.pow_le_pow_right (by decide) (by omega)
    omega
  have z4 : (blen y + 7) / 8 ≤ 32 := by
    rcases Nat.lt_or_ge 32 ((blen y + 7) / 8) with h | h
    · exfalso
      have h3 : 256 ^ 32 ≤ 256 ^ ((blen y + 7) / 8 - 1) := Nat.pow_le_pow_right (by decide) (by omega)
      have h4 : (256 : Nat) ^ 32 = 2 ^ 256 := by decide
      omega
    · exact h
  obtain ⟨z, hzz⟩ : ∃ z, (blen y + 7) / 8 = z := ⟨_, rfl⟩
  rw [hzz] at z1 z2 z3 z4 ⊢
  have hzp : z - 1 + 1 = z := by omega
  have HZ : Hid (z ≤ 32 ∧ y < 256 ^ z ∧ 256 ^ (z - 1) ≤ y) := Lib.hid ⟨z4, z1, z2⟩
  have HZ0 := Lib.hid z3
  have hw0 := lb_word 0 y
  obtain ⟨T0, hT0⟩ : ∃ T, T = str (be (lb 0 y).toNat 8) := ⟨_, rfl⟩
  have HT0 := Lib.hid hT0
  have K0 : Hid (∀ W, Calls Tryz.prog 21 #[.int .u64 (lb 0 y), .int .i64 8] W fun e w' => e = .returned (.string T0) ∧ Below W.heap.size W w') := Lib.hid (fun W => by
    have h := rbytes (lb 0 y).toNat 8 (by unfold Word at hw0; omega) (by decide) W
    rw [← hT0, Int.toNat_of_nonneg (by unfold Word at hw0; omega)] at h
    exact h)
  have h0s : T0.size = 8 := by rw [hT0, str_size, be_len]
  have h0i : (T0.size : Int) ≤ 8388608 := by omega
  clear hT0 hw0
  have hw1 := lb_word 1 y
  obtain ⟨T1, hT1⟩ : ∃ T, T = str (be (lb 1 y).toNat 8) := ⟨_, rfl⟩
  have HT1 := Lib.hid hT1
  have K1 : Hid (∀ W, Calls Tryz.prog 21 #[.int .u64 (lb 1 y), .int .i64 8] W fun e w' => e = .returned (.string T1) ∧ Below W.heap.size W w') := Lib.hid (fun W => by
    have h := rbytes (lb 1 y).toNat 8 (by unfold Word at hw1; omega) (by decide) W
    rw [← hT1, Int.toNat_of_nonneg (by unfold Word at hw1; omega)] at h
    exact h)
  have h1s : T1.size = 8 := by rw [hT1, str_size, be_len]
  have h1i : (T1.size : Int) ≤ 8388608 := by omega
  clear hT1 hw1
  have hw2 := lb_word 2 y
  obtain ⟨T2, hT2⟩ : ∃ T, T = str (be (lb 2 y).toNat 8) := ⟨_, rfl⟩
  have HT2 := Lib.hid hT2
  have K2 : Hid (∀ W, Calls Tryz.prog 21 #[.int .u64 (lb 2 y), .int .i64 8] W fun e w' => e = .returned (.string T2) ∧ Below W.heap.size W w') := Lib.hid (fun W => by
    have h := rbytes (lb 2 y).toNat 8 (by unfold Word at hw2; omega) (by decide) W
    rw [← hT2, Int.toNat_of_nonneg (by unfold Word at hw2; omega)] at h
    exact h)
  have h2s : T2.size = 8 := by rw [hT2, str_size, be_len]
  have h2i : (T2.size : Int) ≤ 8388608 := by omega
  clear hT2 hw2
  have hw3 := lb_word 3 y
  obtain ⟨T3, hT3⟩ : ∃ T, T = str (be (lb 3 y).toNat 8) := ⟨_, rfl⟩
  have HT3 := Lib.hid hT3
  have K3 : Hid (∀ W, Calls Tryz.prog 21 #[.int .u64 (lb 3 y), .int .i64 8] W fun e w' => e = .returned (.string T3) ∧ Below W.heap.size W w') := Lib.hid (fun W => by
    have h := rbytes (lb 3 y).toNat 8 (by unfold Word at hw3; omega) (by decide) W
    rw [← hT3, Int.toNat_of_nonneg (by unfold Word at hw3; omega)] at h
    exact h)
  have h3s : T3.size = 8 := by rw [hT3, str_size, be_len]
  have h3i : (T3.size : Int) ≤ 8388608 := by omega
  clear hT3 hw3
  obtain ⟨U6, hU6⟩ : ∃ U, U = str (hds 6 2) := ⟨_, rfl⟩
  obtain ⟨U2, hU2⟩ : ∃ U, U = str (hds 2 z) := ⟨_, rfl⟩
  have h6i : (U6.size : Int) ≤ 8388608 := by rw [hU6, str_size]; have := hds_len 6 2; omega
  have h2i : (U2.size : Int) ≤ 8388608 := by rw [hU2, str_size]; have := hds_len 2 z; omega
  have h62i : ((U6 ++ U2).size : Int) ≤ 8388608 := by rw [ByteArray.size_append, hU6, hU2, str_size, str_size]; have := hds_len 6 2; have := hds_len 2 z; omega
  have h32i : ((T3 ++ T2).size : Int) ≤ 8388608 := by rw [ByteArray.size_append]; omega
  have h321i : ((T3 ++ T2 ++ T1).size : Int) ≤ 8388608 := by rw [ByteArray.size_append, ByteArray.size_append]; omega
  have HU6 := Lib.hid hU6; have HU2 := Lib.hid hU2
  have KH6 : Hid (∀ W, Calls Tryz.prog 13 #[.int .i64 6, .int .u64 2] W fun e w' => e = .returned (.string U6) ∧ Below W.heap.size W w') := Lib.hid (fun W => by rw [hU6]; exact rhead 6 2 (by decide) (by decide) W)
  clear hU6 hU2 hzz z1 z2 z3 z4
  have HX := Lib.hid hy256
  have LX := Lib.hid (digs_64 hy256)
  clear hy h256 hy256 hy0
  go_enter Tryz.func37, Tryz.ntmps37
  go_wp2_with fail
  refine (rof y HX.out _).mono ?_
  rintro e w1 ⟨s1, rfl, hr, hb⟩
  have R1 := Row5.keep hb (Row5.new w (.bool false) (.int .u64 (lb 0 y)) (.int .u64 (lb 1 y)) (.int .u64 (lb 2 y)) (.int .u64 (lb 3 y)))
  have B1 := Lib.hid (btr (bal (Below.refl w.heap.size w) _) hb)
  have D1 := Lib.hid hr
  clear hb hr
  obtain ⟨c0, c1, c2, c3, c4⟩ := R1.parts
  go_wp2_with fail
  ((with_reducible refine (rnat_yes D1.out HX.out).mono ?_); rintro e w2 ⟨rfl, hb⟩)
  have B2 := Lib.hid (bal (btr B1.out hb) (.cells #[.int .u64 (lb 0 y), .int .u64 (lb 1 y), .int .u64 (lb 2 y), .int .u64 (lb 3 y)] 28))
  have D2 := Lib.hid (DR.keep (bal hb (.cells #[.int .u64 (lb 0 y), .int .u64 (lb 1 y), .int .u64 (lb 2 y), .int .u64 (lb 3 y)] 28)) D1.out)
  have N2 := Row4.new w2 (.int .u64 (lb 0 y)) (.int .u64 (lb 1 y)) (.int .u64 (lb 2 y)) (.int .u64 (lb 3 y))
  clear hb c0 c1 c2 c3 c4 R1
  obtain ⟨n0, n1, n2, n3⟩ := N2.four
  go_wp2_with fail
  ((with_reducible refine (rlen D2.out LX.out).mono ?_); rintro e w3 ⟨rfl, rfl⟩)
  go_upto_region 9 with (fail)
  have r0 := cell_regrown n0; have r1 := cell_regrown n1; have r2 := cell_regrown n2; have r3 := cell_regrown n3
  clear n0 n1 n2 n3
  have cq0 := fun (d : Nat) (os : Array Obj) => Calls.regrown_of (w := w2.alloc (.cells #[.int .u64 (lb 0 y), .int .u64 (lb 1 y), .int .u64 (lb 2 y), .int .u64 (lb 3 y)] 28)) (d := d) (os := os) (K0.out _)
  have cq1 := fun (d : Nat) (os : Array Obj) => Calls.regrown_of (w := w2.alloc (.cells #[.int .u64 (lb 0 y), .int .u64 (lb 1 y), .int .u64 (lb 2 y), .int .u64 (lb 3 y)] 28)) (d := d) (os := os) (K1.out _)
  have cq2 := fun (d : Nat) (os : Array Obj) => Calls.regrown_of (w := w2.alloc (.cells #[.int .u64 (lb 0 y), .int .u64 (lb 1 y), .int .u64 (lb 2 y), .int .u64 (lb 3 y)] 28)) (d := d) (os := os) (K2.out _)
  have cq3 := fun (d : Nat) (os : Array Obj) => Calls.regrown_of (w := w2.alloc (.cells #[.int .u64 (lb 0 y), .int .u64 (lb 1 y), .int .u64 (lb 2 y), .int .u64 (lb 3 y)] 28)) (d := d) (os := os) (K3.out _)
  refine wp_region_quiet_below (by kernel_rfl) (by kernel_rfl) ?_
  repeat (first | go_big_quiet_step ((first | with_reducible exact cq0 _ _ | with_reducible exact cq1 _ _ | with_reducible exact cq2 _ _ | with_reducible exact cq3 _ _)) | quiet_step (first | with_reducible exact cq0 _ _ | with_reducible exact cq1 _ _ | with_reducible exact cq2 _ _ | with_reducible exact cq3 _ _))
  refine wpQuiet_nil ?_
  intro _ hw'
  obtain ⟨⟨dq, osq⟩, hw''⟩ := hw'
  subst hw''
  clear r0 r1 r2 r3 cq0 cq1 cq2 cq3
  have BX := Lib.hid (btr B2.out (below_regrown (w2.alloc (.cells #[.int .u64 (lb 0 y), .int .u64 (lb 1 y), .int .u64 (lb 2 y), .int .u64 (lb 3 y)] 28)) dq osq))
  generalize grow (redrawn (w2.alloc (.cells #[.int .u64 (lb 0 y), .int .u64 (lb 1 y), .int .u64 (lb 2 y), .int .u64 (lb 3 y)] 28)) dq) osq = w5 at *
  go_wp2
  go_loopw [7] (fun sv wr => ∃ (t : Nat) (S : ByteArray), z ≤ t ∧ t ≤ 32 ∧ sv = .string S ∧ Hid (S.size = t) ∧ Hid (S = str (be y t)) ∧ Hid (Below w.heap.size w wr)) (fun sv _ => match sv with | .string S => S.size | _ => 0)
  case atStart =>
    refine ⟨32, _, HZ.out.1, Nat.le_refl _, rfl, ?_, ?_, BX⟩
    · show _ = _
      simp only [ByteArray.size_append, h0s, h1s, h2s, h3s]
    · show _ = _
      rw [← be_32, HT0.out, HT1.out, HT2.out, HT3.out, str_app, str_app, str_app]
  case round =>
    obtain ⟨t, S, ht1, ht2, rfl, HSz, HS, BW⟩ := hrel
    rename World => wr
    obtain ⟨t, rfl⟩ : ∃ u, t = u + 1 := ⟨t - 1, by have := HZ.out; omega⟩
    obtain ⟨c, hc⟩ : ∃ c, UInt8.ofNat (y / 256 ^ t) = c := ⟨_, rfl⟩
    have hSc : S = str (c :: be y t) := by rw [HS.out, be_succ, hc]
    obtain ⟨e1, e2, e3, e4, e6⟩ := cons_facts8 c (be y t)
    rw [← hSc] at e1 e2 e3 e4 e6
    have HD := Lib.hid e6
    have e5 := e4 e3
    have e7 : 1 ≤ S.size := e3
    by_cases hz : t + 1 = z
    · have hne : c ≠ 0 := by
        rw [← hc]
        have h1 := HZ.out.2.1; have h2 := HZ.out.2.2
        rw [← hz] at h1 h2
        exact byte_first h2 h1
      have g1 : ((S[0].toNat : Int) == 0) = false := by
        rw [e5]
        have : c.toNat ≠ 0 := fun h => hne (UInt8.toNat_inj.1 h)
        simp
        omega
      have KS : Hid (∀ W, Calls Tryz.prog 13 #[.int .i64 2, .int .u64 (S.size : Nat)] W fun e w' => e = .returned (.string U2) ∧ Below W.heap.size W w') := Lib.hid (fun W => by
        rw [HU2.out, HSz.out, hz]
        exact rhead 2 z (by decide) (by omega) W)
      have hS8 : (S.size : Int) ≤ 8388608 := by have := HSz.out; omega
      have HF : Hid (U6 ++ U2 ++ S = str (hds 6 2 ++ (hds 2 z ++ be y z))) := by
        show _ = _
        rw [HU6.out, HU2.out, HS.out, hz, str_app, str_app, List.append_assoc]
      clear e4 e5 e6 hSc hc hne HD HS hz
      go_wp2_with fail
      ((with_reducible refine (KH6.out _).mono ?_); rintro e w6 ⟨rfl, hb6⟩)
      go_wp2_with fail
      ((with_reducible refine (KS.out _).mono ?_); rintro e w7 ⟨rfl, hb7⟩)
      go_wp2
      go_ret
      exact ⟨congrArg (fun q => Ending.returned (Value.string q)) HF.out, btr (btr BW.out hb6) hb7⟩
    · have hlt : y < 256 ^ t := Nat.lt_of_lt_of_le HZ.out.2.1 (Nat.pow_le_pow_right (by decide) (by omega))
      have hc0 : c = 0 := by rw [← hc]; exact byte_zero hlt
      have g1 : ((S[0].toNat : Int) == 0) = true := by rw [e5, hc0]; rfl
      have HTZ : Hid (z ≤ t) := Lib.hid (by omega)
      have HS2 : Hid ((S.extract 1 S.size).size = t) := by show _ = _; rw [HD.out, str_size, be_len]
      clear e4 e5 e6 hc hc0 hlt hSc HS hz
      go_wp2
      go_roundw
      case rel => exact ⟨t, S.extract 1 S.size, HTZ.out, by omega, rfl, HS2, HD, BW.out⟩
      case measure => (show (S.extract 1 S.size).size < S.size; have := HS2.out; have := HSz.out; omega)
set_option maxRecDepth 100000 in
set_option maxHeartbeats 8000000 in
theorem rwhole_bigneg (y : Nat) (hy : ¬ y < 18446744073709551616) (h256 : (y + 1) < 2 ^ 256) (w : World) : Calls Tryz.prog 37 #[.agg #[.bool true, .int .u64 (lb 0 (y + 1)), .int .u64 (lb 1 (y + 1)), .int .u64 (lb 2 (y + 1)), .int .u64 (lb 3 (y + 1))]] w fun e w' => e = .returned (.string (str (natB 1 3 y))) ∧ Below w.heap.size w w' := by
  have hy0 : y ≠ 0 := by omega
  have hy256 : y < 2 ^ 256 := by omega
  have e : natB 1 3 y = hds 6 3 ++ (hds 2 ((blen y + 7) / 8) ++ be y ((blen y + 7) / 8)) := by unfold natB; rw [if_neg hy]
  rw [e]
  clear e
  obtain ⟨z1, z2, z3⟩ := nbytes y hy0
  have hle : ¬ (blen y : Int) ≤ 64 := by
    intro h
    have h1 := (blen_spec hy0).2.2
    have h2 : 2 ^ blen y ≤ 2 ^ 64 := Nat.pow_le_pow_right (by decide) (by omega)
    omega
  have z4 : (blen y + 7) / 8 ≤ 32 := by
    rcases Nat.lt_or_ge 32 ((blen y + 7) / 8) with h | h
    · exfalso
      have h3 : 256 ^ 32 ≤ 256 ^ ((blen y + 7) / 8 - 1) := Nat.pow_le_pow_right (by decide) (by omega)
      have h4 : (256 : Nat) ^ 32 = 2 ^ 256 := by decide
      omega
    · exact h
  obtain ⟨z, hzz⟩ : ∃ z, (blen y + 7) / 8 = z := ⟨_, rfl⟩
  rw [hzz] at z1 z2 z3 z4 ⊢
  have hzp : z - 1 + 1 = z := by omega
  have HZ : Hid (z ≤ 32 ∧ y < 256 ^ z ∧ 256 ^ (z - 1) ≤ y) := Lib.hid ⟨z4, z1, z2⟩
  have HZ0 := Lib.hid z3
  have hw0 := lb_word 0 y
  obtain ⟨T0, hT0⟩ : ∃ T, T = str (be (lb 0 y).toNat 8) := ⟨_, rfl⟩
  have HT0 := Lib.hid hT0
  have K0 : Hid (∀ W, Calls Tryz.prog 21 #[.int .u64 (lb 0 y), .int .i64 8] W fun e w' => e = .returned (.string T0) ∧ Below W.heap.size W w') := Lib.hid (fun W => by
    have h := rbytes (lb 0 y).toNat 8 (by unfold Word at hw0; omega) (by decide) W
    rw [← hT0, Int.toNat_of_nonneg (by unfold Word at hw0; omega)] at h
    exact h)
  have h0s : T0.size = 8 := by rw [hT0, str_size, be_len]
  have h0i : (T0.size : Int) ≤ 8388608 := by omega
  clear hT0 hw0
  have hw1 := lb_word 1 y
  obtain ⟨T1, hT1⟩ : ∃ T, T = str (be (lb 1 y).toNat 8) := ⟨_, rfl⟩
  have HT1 := Lib.hid hT1
  have K1 : Hid (∀ W, Calls Tryz.prog 21 #[.int .u64 (lb 1 y), .int .i64 8] W fun e w' => e = .returned (.string T1) ∧ Below W.heap.size W w') := Lib.hid (fun W => by
    have h := rbytes (lb 1 y).toNat 8 (by unfold Word at hw1; omega) (by decide) W
    rw [← hT1, Int.toNat_of_nonneg (by unfold Word at hw1; omega)] at h
    exact h)
  have h1s : T1.size = 8 := by rw [hT1, str_size, be_len]
  have h1i : (T1.size : Int) ≤ 8388608 := by omega
  clear hT1 hw1
  have hw2 := lb_word 2 y
  obtain ⟨T2, hT2⟩ : ∃ T, T = str (be (lb 2 y).toNat 8) := ⟨_, rfl⟩
  have HT2 := Lib.hid hT2
  have K2 : Hid (∀ W, Calls Tryz.prog 21 #[.int .u64 (lb 2 y), .int .i64 8] W fun e w' => e = .returned (.string T2) ∧ Below W.heap.size W w') := Lib.hid (fun W => by
    have h := rbytes (lb 2 y).toNat 8 (by unfold Word at hw2; omega) (by decide) W
    rw [← hT2, Int.toNat_of_nonneg (by unfold Word at hw2; omega)] at h
    exact h)
  have h2s : T2.size = 8 := by rw [hT2, str_size, be_len]
  have h2i : (T2.size : Int) ≤ 8388608 := by omega
  clear hT2 hw2
  have hw3 := lb_word 3 y
  obtain ⟨T3, hT3⟩ : ∃ T, T = str (be (lb 3 y).toNat 8) := ⟨_, rfl⟩
  have HT3 := Lib.hid hT3
  have K3 : Hid (∀ W, Calls Tryz.prog 21 #[.int .u64 (lb 3 y), .int .i64 8] W fun e w' => e = .returned (.string T3) ∧ Below W.heap.size W w') := Lib.hid (fun W => by
    have h := rbytes (lb 3 y).toNat 8 (by unfold Word at hw3; omega) (by decide) W
    rw [← hT3, Int.toNat_of_nonneg (by unfold Word at hw3; omega)] at h
    exact h)
  have h3s : T3.size = 8 := by rw [hT3, str_size, be_len]
  have h3i : (T3.size : Int) ≤ 8388608 := by omega
  clear hT3 hw3
  obtain ⟨U6, hU6⟩ : ∃ U, U = str (hds 6 3) := ⟨_, rfl⟩
  obtain ⟨U2, hU2⟩ : ∃ U, U = str (hds 2 z) := ⟨_, rfl⟩
  have h6i : (U6.size : Int) ≤ 8388608 := by rw [hU6, str_size]; have := hds_len 6 3; omega
  have h2i : (U2.size : Int) ≤ 8388608 := by rw [hU2, str_size]; have := hds_len 2 z; omega
  have h62i : ((U6 ++ U2).size : Int) ≤ 8388608 := by rw [ByteArray.size_append, hU6, hU2, str_size, str_size]; have := hds_len 6 3; have := hds_len 2 z; omega
  have h32i : ((T3 ++ T2).size : Int) ≤ 8388608 := by rw [ByteArray.size_append]; omega
  have h321i : ((T3 ++ T2 ++ T1).size : Int) ≤ 8388608 := by rw [ByteArray.size_append, ByteArray.size_append]; omega
  have HU6 := Lib.hid hU6; have HU2 := Lib.hid hU2
  have KH6 : Hid (∀ W, Calls Tryz.prog 13 #[.int .i64 6, .int .u64 3] W fun e w' => e = .returned (.string U6) ∧ Below W.heap.size W w') := Lib.hid (fun W => by rw [hU6]; exact rhead 6 3 (by decide) (by decide) W)
  clear hU6 hU2 hzz z1 z2 z3 z4
  have HX := Lib.hid h256; have HY := Lib.hid hy256
  have LX := Lib.hid (digs_64 h256); have LY := Lib.hid (digs_64 hy256)
  obtain ⟨x, hx⟩ : ∃ x, y + 1 = x := ⟨_, rfl⟩
  have H1 : Hid (1 ≤ x) := Lib.hid (by omega)
  have H2 : Hid (x - 1 = y) := Lib.hid (by omega)
  rw [hx] at HX LX ⊢
  clear hy h256 hy256 hy0 hx
  go_enter Tryz.func37, Tryz.ntmps37
  go_wp2_with fail
  refine (rof x HX.out _).mono ?_
  rintro e w1 ⟨s1, rfl, hr, hb⟩
  have R1 := Row5.keep hb (Row5.new w (.bool true) (.int .u64 (lb 0 x)) (.int .u64 (lb 1 x)) (.int .u64 (lb 2 x)) (.int .u64 (lb 3 x)))
  have B1 := Lib.hid (bal (btr (bal (Below.refl w.heap.size w) _) hb) (.cells #[.int .u32 1] 92))
  have D1 := Lib.hid (DR.keep (bal (Below.refl _ _) (.cells #[.int .u32 1] 92)) hr)
  have O1 := Lib.hid (ten_new w1 1 (by decide) (by decide) 1 rfl)
  have KS : Hid (Calls Tryz.prog 62 #[s1, .slice (some ⟨w1.heap.size, 0, none⟩) 1 1] (w1.alloc (.cells #[.int .u32 1] 92)) fun e w' => ∃ s', e = .returned s' ∧ DR w' s' y ∧ Below (w1.alloc (.cells #[.int .u32 1] 92)).heap.size (w1.alloc (.cells #[.int .u32 1] 92)) w') := Lib.hid (by have := rsub D1.out O1.out LX.out H1.out; rw [H2.out] at this; exact this)
  clear hb hr
  obtain ⟨c0, c1, c2, c3, c4⟩ := R1.parts
  go_wp2_with fail
  ((with_reducible refine (KS.out).mono ?_); rintro e w2 ⟨s2, rfl, hr, hb⟩)
  have B2 := Lib.hid (btr B1.out hb)
  have D2 := Lib.hid hr
  clear hb hr c0 c1 c2 c3 c4 R1 D1 O1 KS
  go_wp2_with fail
  ((with_reducible refine (rnat_yes D2.out HY.out).mono ?_); rintro e w3 ⟨rfl, hb⟩)
  have B3 := Lib.hid (bal (btr B2.out hb) (.cells #[.int .u64 (lb 0 y), .int .u64 (lb 1 y), .int .u64 (lb 2 y), .int .u64 (lb 3 y)] 28))
  have D3 := Lib.hid (DR.keep (bal hb (.cells #[.int .u64 (lb 0 y), .int .u64 (lb 1 y), .int .u64 (lb 2 y), .int .u64 (lb 3 y)] 28)) D2.out)
  have N3 := Row4.new w3 (.int .u64 (lb 0 y)) (.int .u64 (lb 1 y)) (.int .u64 (lb 2 y)) (.int .u64 (lb 3 y))
  clear hb
  obtain ⟨n0, n1, n2, n3⟩ := N3.four
  go_wp2_with fail
  ((with_reducible refine (rlen D3.out LY.out).mono ?_); rintro e w4 ⟨rfl, rfl⟩)
  go_upto_region 9 with (fail)
  have r0 := cell_regrown n0; have r1 := cell_regrown n1; have r2 := cell_regrown n2; have r3 := cell_regrown n3
  clear n0 n1 n2 n3
  have cq0 := fun (d : Nat) (os : Array Obj) => Calls.regrown_of (w := w3.alloc (.cells #[.int .u64 (lb 0 y), .int .u64 (lb 1 y), .int .u64 (lb 2 y), .int .u64 (lb 3 y)] 28)) (d := d) (os := os) (K0.out _)
  have cq1 := fun (d : Nat) (os : Array Obj) => Calls.regrown_of (w := w3.alloc (.cells #[.int .u64 (lb 0 y), .int .u64 (lb 1 y), .int .u64 (lb 2 y), .int .u64 (lb 3 y)] 28)) (d := d) (os := os) (K1.out _)
  have cq2 := fun (d : Nat) (os : Array Obj) => Calls.regrown_of (w := w3.alloc (.cells #[.int .u64 (lb 0 y), .int .u64 (lb 1 y), .int .u64 (lb 2 y), .int .u64 (lb 3 y)] 28)) (d := d) (os := os) (K2.out _)
  have cq3 := fun (d : Nat) (os : Array Obj) => Calls.regrown_of (w := w3.alloc (.cells #[.int .u64 (lb 0 y), .int .u64 (lb 1 y), .int .u64 (lb 2 y), .int .u64 (lb 3 y)] 28)) (d := d) (os := os) (K3.out _)
  refine wp_region_quiet_below (by kernel_rfl) (by kernel_rfl) ?_
  repeat (first | go_big_quiet_step ((first | with_reducible exact cq0 _ _ | with_reducible exact cq1 _ _ | with_reducible exact cq2 _ _ | with_reducible exact cq3 _ _)) | quiet_step (first | with_reducible exact cq0 _ _ | with_reducible exact cq1 _ _ | with_reducible exact cq2 _ _ | with_reducible exact cq3 _ _))
  refine wpQuiet_nil ?_
  intro _ hw'
  obtain ⟨⟨dq, osq⟩, hw''⟩ := hw'
  subst hw''
  clear r0 r1 r2 r3 cq0 cq1 cq2 cq3
  have BX := Lib.hid (btr B3.out (below_regrown (w3.alloc (.cells #[.int .u64 (lb 0 y), .int .u64 (lb 1 y), .int .u64 (lb 2 y), .int .u64 (lb 3 y)] 28)) dq osq))
  generalize grow (redrawn (w3.alloc (.cells #[.int .u64 (lb 0 y), .int .u64 (lb 1 y), .int .u64 (lb 2 y), .int .u64 (lb 3 y)] 28)) dq) osq = w5 at *
  go_wp2
  go_loopw [7] (fun sv wr => ∃ (t : Nat) (S : ByteArray), z ≤ t ∧ t ≤ 32 ∧ sv = .string S ∧ Hid (S.size = t) ∧ Hid (S = str (be y t)) ∧ Hid (Below w.heap.size w wr)) (fun sv _ => match sv with | .string S => S.size | _ => 0)
  case atStart =>
    refine ⟨32, _, HZ.out.1, Nat.le_refl _, rfl, ?_, ?_, BX⟩
    · show _ = _
      simp only [ByteArray.size_append, h0s, h1s, h2s, h3s]
    · show _ = _
      rw [← be_32, HT0.out, HT1.out, HT2.out, HT3.out, str_app, str_app, str_app]
  case round =>
    obtain ⟨t, S, ht1, ht2, rfl, HSz, HS, BW⟩ := hrel
    rename World => wr
    obtain ⟨t, rfl⟩ : ∃ u, t = u + 1 := ⟨t - 1, by have := HZ.out; omega⟩
    obtain ⟨c, hc⟩ : ∃ c, UInt8.ofNat (y / 256 ^ t) = c := ⟨_, rfl⟩
    have hSc : S = str (c :: be y t) := by rw [HS.out, be_succ, hc]
    obtain ⟨e1, e2, e3, e4, e6⟩ := cons_facts8 c (be y t)
    rw [← hSc] at e1 e2 e3 e4 e6
    have HD := Lib.hid e6
    have e5 := e4 e3
    have e7 : 1 ≤ S.size := e3
    by_cases hz : t + 1 = z
    · have hne : c ≠ 0 := by
        rw [← hc]
        have h1 := HZ.out.2.1; have h2 := HZ.out.2.2
        rw [← hz] at h1 h2
        exact byte_first h2 h1
      have g1 : ((S[0].toNat : Int) == 0) = false := by
        rw [e5]
        have : c.toNat ≠ 0 := fun h => hne (UInt8.toNat_inj.1 h)
        simp
        omega
      have KS : Hid (∀ W, Calls Tryz.prog 13 #[.int .i64 2, .int .u64 (S.size : Nat)] W fun e w' => e = .returned (.string U2) ∧ Below W.heap.size W w') := Lib.hid (fun W => by
        rw [HU2.out, HSz.out, hz]
        exact rhead 2 z (by decide) (by omega) W)
      have hS8 : (S.size : Int) ≤ 8388608 := by have := HSz.out; omega
      have HF : Hid (U6 ++ U2 ++ S = str (hds 6 3 ++ (hds 2 z ++ be y z))) := by
        show _ = _
        rw [HU6.out, HU2.out, HS.out, hz, str_app, str_app, List.append_assoc]
      clear e4 e5 e6 hSc hc hne HD HS hz
      go_wp2_with fail
      ((with_reducible refine (KH6.out _).mono ?_); rintro e w6 ⟨rfl, hb6⟩)
      go_wp2_with fail
      ((with_reducible refine (KS.out _).mono ?_); rintro e w7 ⟨rfl, hb7⟩)
      go_wp2
      go_ret
      exact ⟨congrArg (fun q => Ending.returned (Value.string q)) HF.out, btr (btr BW.out hb6) hb7⟩
    · have hlt : y < 256 ^ t := Nat.lt_of_lt_of_le HZ.out.2.1 (Nat.pow_le_pow_right (by decide) (by omega))
      have hc0 : c = 0 := by rw [← hc]; exact byte_zero hlt
      have g1 : ((S[0].toNat : Int) == 0) = true := by rw [e5, hc0]; rfl
      have HTZ : Hid (z ≤ t) := Lib.hid (by omega)
      have HS2 : Hid ((S.extract 1 S.size).size = t) := by show _ = _; rw [HD.out, str_size, be_len]
      clear e4 e5 e6 hc hc0 hlt hSc HS hz
      go_wp2
      go_roundw
      case rel => exact ⟨t, S.extract 1 S.size, HTZ.out, by omega, rfl, HS2, HD, BW.out⟩
      case measure => (show (S.extract 1 S.size).size < S.size; have := HS2.out; have := HSz.out; omega)
theorem rwhole_all (g : Bool) (x : Nat) (hx : x < 2 ^ 256) (hg : g = true → 1 ≤ x) (w : World) : Calls Tryz.prog 37 #[.agg #[.bool g, .int .u64 (lb 0 x), .int .u64 (lb 1 x), .int .u64 (lb 2 x), .int .u64 (lb 3 x)]] w fun e w' => e = .returned (.string (str (intB g x))) ∧ Below w.heap.size w w' := by
  cases g with
  | false =>
    by_cases h : x < 18446744073709551616
    · have := rwhole_any false x h w
      exact this
    · exact rwhole_bigpos x h hx w
  | true =>
    obtain ⟨y, rfl⟩ : ∃ y, x = y + 1 := ⟨x - 1, by have := hg rfl; omega⟩
    by_cases h : y < 18446744073709551616
    · have := rwhole_any true y h w
      exact this
    · exact rwhole_bigneg y h hx w
end Go.Proofs.YtfaaagmjmljhiaaGreatDoor
end
