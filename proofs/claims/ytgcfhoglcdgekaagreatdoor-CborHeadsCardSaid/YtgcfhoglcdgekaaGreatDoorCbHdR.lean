/-
  entrepotref6.Head: the shortest head.
-/
import Derived.Test.YtgcfhoglcdgekaaGreatDoorR6Bytes
import Derived.Deep.RegionWith
namespace Go.Proofs.YtgcfhoglcdgekaaGreatDoor
open Go.RowKit Go.Shelf
open Go.Sort (grow)
set_option linter.unusedVariables false

theorem u8_or_nat (a b : Nat) (ha : a < 256) (hb : b < 256) : bits .or .u8 (a : Int) (b : Int) = ((a ||| b : Nat) : Int) := by
  have hx : a ||| b < 2 ^ 8 := Nat.or_lt_two_pow (by omega) (by omega)
  show IntKind.u8.wrap ((BitVec.ofInt 8 (a : Int) ||| BitVec.ofInt 8 (b : Int)).toNat : Int) = _
  have e : (BitVec.ofInt 8 (a : Int) ||| BitVec.ofInt 8 (b : Int)).toNat = a ||| b := by
    rw [BitVec.toNat_or]
    simp only [BitVec.toNat_ofInt]
    congr 1 <;> omega
  rw [e]
  exact Go.IntWalk.u8_in _ (by omega)
theorem or8 (m k : Nat) (hm : m < 8) (hk : k < 32) : bits .or .u8 ((m : Int) * 32) (k : Int) = ((m * 32 + k : Nat) : Int) := by
  rw [show ((m : Int) * 32) = ((m * 32 : Nat) : Int) by omega, u8_or_nat _ _ (by omega) (by omega)]
  have := Nat.two_pow_add_eq_or_of_lt (i := 5) (b := k) (by omega) m
  rw [show m * 32 = 2 ^ 5 * m by omega, this]
theorem hds_low {m n : Nat} (h : n < 24) : hds m n = [UInt8.ofNat (m * 32 + n)] := by
  unfold hds sinf
  rw [if_pos h]
  unfold hby
  rw [hsz_low h]
  rfl
theorem u8s_one {v : Nat} (h : v < 256) {Z : Int} (hZ : Z = (v : Int)) : #[Value.int .u8 Z].toList = U8s [UInt8.ofNat v] := by
  subst hZ
  simp [U8s]
  omega
/-- One byte in a block of its own, as a text. -/
theorem conv_one (W : World) (v : Nat) (h : v < 256) (Z : Int) (hZ : Z = (v : Int)) (g : Nat) (hg : W.heap.size = g) : (convert 24 9 (.slice (some ⟨g, 0, none⟩) 1 1)).run Tryz.prog (W.alloc (.cells #[.int .u8 Z] 5)) = .ok (.string (str [UInt8.ofNat v])) (W.alloc (.cells #[.int .u8 Z] 5)) :=
  conv_bytes _ g 0 1 _ (bytes_at W _ _ g hg (u8s_one h hZ)) 1 rfl
set_option maxRecDepth 100000 in
set_option maxHeartbeats 4000000 in
theorem rhead_low (m n : Nat) (hm : m < 8) (hn : n < 24) (w : World) : Calls Tryz.prog 37 #[.int .i64 m, .int .u64 n] w fun e w' => e = .returned (.string (str (hds m n))) ∧ Below w.heap.size w w' := by
  rw [hds_low hn]
  obtain ⟨Z, hZ⟩ : ∃ Z : Int, bits .or .u8 ((m : Int) * 32) (n : Int) = Z := ⟨_, rfl⟩
  have hcv := conv_one w (m * 32 + n) (by omega) Z (by rw [← hZ, or8 m n hm (by omega)]) w.heap.size rfl
  have b0 : (m : Int) < 8 := by omega
  have b1 : (n : Int) < 24 := by omega
  obtain ⟨c, hc⟩ : ∃ c, UInt8.ofNat (m * 32 + n) = c := ⟨_, rfl⟩
  rw [hc] at hcv ⊢
  clear hm hn hc
  go_enter Tryz.func37, Tryz.ntmps37
  go_wp2
  go_ret
  exact ⟨rfl, bal (Below.refl _ _) _⟩
theorem conv_kept {W W' : World} {v g : Nat} (h : v < 256) {Z : Int} (hZ : Z = (v : Int)) (hg : W.heap.size = g) (hb : Below (W.alloc (.cells #[.int .u8 Z] 5)).heap.size (W.alloc (.cells #[.int .u8 Z] 5)) W') : (convert 24 9 (.slice (some ⟨g, 0, none⟩) 1 1)).run Tryz.prog W' = .ok (.string (str [UInt8.ofNat v])) W' :=
  conv_bytes _ g 0 1 _ ((bytes_at W _ _ g hg (u8s_one h hZ)).keep hb) 1 rfl
set_option maxRecDepth 1000000 in
set_option maxHeartbeats 4000000 in
theorem rhead_24 (m n : Nat) (hm : m < 8) (hn : n < 18446744073709551616) (h1 : 24 ≤ n) (h2 : n < 256) (w : World) : Calls Tryz.prog 37 #[.int .i64 m, .int .u64 n] w fun e w' => e = .returned (.string (str (UInt8.ofNat (m * 32 + 24) :: be n 1))) ∧ Below w.heap.size w w' := by
  obtain ⟨Z, hZ⟩ : ∃ Z : Int, bits .or .u8 ((m : Int) * 32) 24 = Z := ⟨_, rfl⟩
  have hv : Z = ((m * 32 + 24 : Nat) : Int) := by rw [← hZ]; exact or8 m 24 hm (by decide)
  have hv2 : m * 32 + 24 < 256 := by omega
  obtain ⟨v, hvv⟩ : ∃ v, m * 32 + 24 = v := ⟨_, rfl⟩
  rw [hvv] at hv hv2
  have HV := Lib.hid hv; have HV2 := Lib.hid hv2
  have hst := str_app [UInt8.ofNat v] (be n 1)
  obtain ⟨c, hc⟩ : ∃ c, UInt8.ofNat v = c := ⟨_, rfl⟩
  have HC := Lib.hid hc
  obtain ⟨N, hN⟩ : ∃ N : Int, (n : Int) = N := ⟨_, rfl⟩
  have KB : Hid (∀ W, Calls Tryz.prog 70 #[.int .u64 N, .int .i64 1] W fun e w' => e = .returned (.string (str (be n 1))) ∧ Below W.heap.size W w') := Lib.hid (fun W => by rw [← hN]; exact rbytes n 1 hn (by decide) W)
  have hcv := conv_one w v hv2 Z hv w.heap.size rfl
  have hcd := conv_kept hv2 hv (rfl : w.heap.size = w.heap.size) (Below.drew (Below.refl _ (w.alloc (.cells #[.int .u8 Z] 5))))
  have hce := conv_one w.drew v hv2 Z hv w.heap.size rfl
  have b0 : (m : Int) < 8 := by omega
  have c1 : ¬ N < 24 := by omega
  have c2 : N < 256 := by omega
  rw [hvv, hc]
  rw [hc] at hcv hcd hce hst
  clear hm hv hv2 hvv hc hn h1 h2
  obtain ⟨S, hS⟩ : ∃ S, str (c :: be n 1) = S := ⟨_, rfl⟩
  have hst2 : str [c] ++ str (be n 1) = S := by rw [hst]; exact hS
  rw [hS, hN]
  clear hst hS hN
  go_enter Tryz.func37, Tryz.ntmps37
  go_wp2_with fail
  go_region_with (go_at_call 70; ((with_reducible refine (KB.out _).mono ?_); rintro e wb ⟨rfl, hb⟩; first | (have hcb := conv_kept HV2.out HV.out rfl hb; rw [HC.out] at hcb; have hbw : Below w.heap.size w wb := btr (by repeat (first | (with_reducible exact Below.refl _ _) | (with_reducible refine bal ?_ _) | (with_reducible refine Below.drew ?_) | (with_reducible refine bdn ?_ _))) hb) | (have hcb := conv_kept (W := w) HV2.out HV.out rfl (btr (Below.drew (Below.refl _ _)) hb); rw [HC.out] at hcb; have hbw : Below w.heap.size w wb := btr (by repeat (first | (with_reducible exact Below.refl _ _) | (with_reducible refine bal ?_ _) | (with_reducible refine Below.drew ?_) | (with_reducible refine bdn ?_ _))) hb) | (have hcb := conv_kept (W := w.drew) (g := w.heap.size) HV2.out HV.out rfl hb; rw [HC.out] at hcb; have hbw : Below w.heap.size w wb := btr (by repeat (first | (with_reducible exact Below.refl _ _) | (with_reducible refine bal ?_ _) | (with_reducible refine Below.drew ?_) | (with_reducible refine bdn ?_ _))) hb) | (have hcb := conv_one wb _ HV2.out Z HV.out wb.heap.size rfl; rw [HC.out] at hcb; have hbw : Below w.heap.size w wb := btr (by repeat (first | (with_reducible exact Below.refl _ _) | (with_reducible refine bal ?_ _) | (with_reducible refine Below.drew ?_) | (with_reducible refine bdn ?_ _))) hb)))
  all_goals
    go_wp2
    go_ret
    exact ⟨rfl, by repeat (first | (with_reducible exact hbw) | (with_reducible refine bal ?_ _) | (with_reducible refine Below.drew ?_) | (with_reducible refine bdn ?_ _))⟩
set_option maxRecDepth 1000000 in
set_option maxHeartbeats 4000000 in
theorem rhead_25 (m n : Nat) (hm : m < 8) (hn : n < 18446744073709551616) (h1 : 256 ≤ n) (h2 : n < 65536) (w : World) : Calls Tryz.prog 37 #[.int .i64 m, .int .u64 n] w fun e w' => e = .returned (.string (str (UInt8.ofNat (m * 32 + 25) :: be n 2))) ∧ Below w.heap.size w w' := by
  obtain ⟨Z, hZ⟩ : ∃ Z : Int, bits .or .u8 ((m : Int) * 32) 25 = Z := ⟨_, rfl⟩
  have hv : Z = ((m * 32 + 25 : Nat) : Int) := by rw [← hZ]; exact or8 m 25 hm (by decide)
  have hv2 : m * 32 + 25 < 256 := by omega
  obtain ⟨v, hvv⟩ : ∃ v, m * 32 + 25 = v := ⟨_, rfl⟩
  rw [hvv] at hv hv2
  have HV := Lib.hid hv; have HV2 := Lib.hid hv2
  have hst := str_app [UInt8.ofNat v] (be n 2)
  obtain ⟨c, hc⟩ : ∃ c, UInt8.ofNat v = c := ⟨_, rfl⟩
  have HC := Lib.hid hc
  obtain ⟨N, hN⟩ : ∃ N : Int, (n : Int) = N := ⟨_, rfl⟩
  have KB : Hid (∀ W, Calls Tryz.prog 70 #[.int .u64 N, .int .i64 2] W fun e w' => e = .returned (.string (str (be n 2))) ∧ Below W.heap.size W w') := Lib.hid (fun W => by rw [← hN]; exact rbytes n 2 hn (by decide) W)
  have hcv := conv_one w v hv2 Z hv w.heap.size rfl
  have hcd := conv_kept hv2 hv (rfl : w.heap.size = w.heap.size) (Below.drew (Below.refl _ (w.alloc (.cells #[.int .u8 Z] 5))))
  have hce := conv_one w.drew v hv2 Z hv w.heap.size rfl
  have b0 : (m : Int) < 8 := by omega
  have c1 : ¬ N < 24 := by omega
  have c2 : ¬ N < 256 := by omega
  have c3 : N < 65536 := by omega
  rw [hvv, hc]
  rw [hc] at hcv hcd hce hst
  clear hm hv hv2 hvv hc hn h1 h2
  obtain ⟨S, hS⟩ : ∃ S, str (c :: be n 2) = S := ⟨_, rfl⟩
  have hst2 : str [c] ++ str (be n 2) = S := by rw [hst]; exact hS
  rw [hS, hN]
  clear hst hS hN
  go_enter Tryz.func37, Tryz.ntmps37
  go_wp2_with fail
  go_region_with (go_at_call 70; ((with_reducible refine (KB.out _).mono ?_); rintro e wb ⟨rfl, hb⟩; first | (have hcb := conv_kept HV2.out HV.out rfl hb; rw [HC.out] at hcb; have hbw : Below w.heap.size w wb := btr (by repeat (first | (with_reducible exact Below.refl _ _) | (with_reducible refine bal ?_ _) | (with_reducible refine Below.drew ?_) | (with_reducible refine bdn ?_ _))) hb) | (have hcb := conv_kept (W := w) HV2.out HV.out rfl (btr (Below.drew (Below.refl _ _)) hb); rw [HC.out] at hcb; have hbw : Below w.heap.size w wb := btr (by repeat (first | (with_reducible exact Below.refl _ _) | (with_reducible refine bal ?_ _) | (with_reducible refine Below.drew ?_) | (with_reducible refine bdn ?_ _))) hb) | (have hcb := conv_kept (W := w.drew) (g := w.heap.size) HV2.out HV.out rfl hb; rw [HC.out] at hcb; have hbw : Below w.heap.size w wb := btr (by repeat (first | (with_reducible exact Below.refl _ _) | (with_reducible refine bal ?_ _) | (with_reducible refine Below.drew ?_) | (with_reducible refine bdn ?_ _))) hb) | (have hcb := conv_one wb _ HV2.out Z HV.out wb.heap.size rfl; rw [HC.out] at hcb; have hbw : Below w.heap.size w wb := btr (by repeat (first | (with_reducible exact Below.refl _ _) | (with_reducible refine bal ?_ _) | (with_reducible refine Below.drew ?_) | (with_reducible refine bdn ?_ _))) hb)))
  all_goals
    go_wp2
    go_ret
    exact ⟨rfl, by repeat (first | (with_reducible exact hbw) | (with_reducible refine bal ?_ _) | (with_reducible refine Below.drew ?_) | (with_reducible refine bdn ?_ _))⟩
set_option maxRecDepth 1000000 in
set_option maxHeartbeats 4000000 in
theorem rhead_26 (m n : Nat) (hm : m < 8) (hn : n < 18446744073709551616) (h1 : 65536 ≤ n) (h2 : n < 4294967296) (w : World) : Calls Tryz.prog 37 #[.int .i64 m, .int .u64 n] w fun e w' => e = .returned (.string (str (UInt8.ofNat (m * 32 + 26) :: be n 4))) ∧ Below w.heap.size w w' := by
  obtain ⟨Z, hZ⟩ : ∃ Z : Int, bits .or .u8 ((m : Int) * 32) 26 = Z := ⟨_, rfl⟩
  have hv : Z = ((m * 32 + 26 : Nat) : Int) := by rw [← hZ]; exact or8 m 26 hm (by decide)
  have hv2 : m * 32 + 26 < 256 := by omega
  obtain ⟨v, hvv⟩ : ∃ v, m * 32 + 26 = v := ⟨_, rfl⟩
  rw [hvv] at hv hv2
  have HV := Lib.hid hv; have HV2 := Lib.hid hv2
  have hst := str_app [UInt8.ofNat v] (be n 4)
  obtain ⟨c, hc⟩ : ∃ c, UInt8.ofNat v = c := ⟨_, rfl⟩
  have HC := Lib.hid hc
  obtain ⟨N, hN⟩ : ∃ N : Int, (n : Int) = N := ⟨_, rfl⟩
  have KB : Hid (∀ W, Calls Tryz.prog 70 #[.int .u64 N, .int .i64 4] W fun e w' => e = .returned (.string (str (be n 4))) ∧ Below W.heap.size W w') := Lib.hid (fun W => by rw [← hN]; exact rbytes n 4 hn (by decide) W)
  have hcv := conv_one w v hv2 Z hv w.heap.size rfl
  have hcd := conv_kept hv2 hv (rfl : w.heap.size = w.heap.size) (Below.drew (Below.refl _ (w.alloc (.cells #[.int .u8 Z] 5))))
  have hce := conv_one w.drew v hv2 Z hv w.heap.size rfl
  have b0 : (m : Int) < 8 := by omega
  have c1 : ¬ N < 24 := by omega
  have c2 : ¬ N < 256 := by omega
  have c3 : ¬ N < 65536 := by omega
  have c4 : N < 4294967296 := by omega
  rw [hvv, hc]
  rw [hc] at hcv hcd hce hst
  clear hm hv hv2 hvv hc hn h1 h2
  obtain ⟨S, hS⟩ : ∃ S, str (c :: be n 4) = S := ⟨_, rfl⟩
  have hst2 : str [c] ++ str (be n 4) = S := by rw [hst]; exact hS
  rw [hS, hN]
  clear hst hS hN
  go_enter Tryz.func37, Tryz.ntmps37
  go_wp2_with fail
  go_region_with (go_at_call 70; ((with_reducible refine (KB.out _).mono ?_); rintro e wb ⟨rfl, hb⟩; first | (have hcb := conv_kept HV2.out HV.out rfl hb; rw [HC.out] at hcb; have hbw : Below w.heap.size w wb := btr (by repeat (first | (with_reducible exact Below.refl _ _) | (with_reducible refine bal ?_ _) | (with_reducible refine Below.drew ?_) | (with_reducible refine bdn ?_ _))) hb) | (have hcb := conv_kept (W := w) HV2.out HV.out rfl (btr (Below.drew (Below.refl _ _)) hb); rw [HC.out] at hcb; have hbw : Below w.heap.size w wb := btr (by repeat (first | (with_reducible exact Below.refl _ _) | (with_reducible refine bal ?_ _) | (with_reducible refine Below.drew ?_) | (with_reducible refine bdn ?_ _))) hb) | (have hcb := conv_kept (W := w.drew) (g := w.heap.size) HV2.out HV.out rfl hb; rw [HC.out] at hcb; have hbw : Below w.heap.size w wb := btr (by repeat (first | (with_reducible exact Below.refl _ _) | (with_reducible refine bal ?_ _) | (with_reducible refine Below.drew ?_) | (with_reducible refine bdn ?_ _))) hb) | (have hcb := conv_one wb _ HV2.out Z HV.out wb.heap.size rfl; rw [HC.out] at hcb; have hbw : Below w.heap.size w wb := btr (by repeat (first | (with_reducible exact Below.refl _ _) | (with_reducible refine bal ?_ _) | (with_reducible refine Below.drew ?_) | (with_reducible refine bdn ?_ _))) hb)))
  all_goals
    go_wp2
    go_ret
    exact ⟨rfl, by repeat (first | (with_reducible exact hbw) | (with_reducible refine bal ?_ _) | (with_reducible refine Below.drew ?_) | (with_reducible refine bdn ?_ _))⟩
set_option maxRecDepth 1000000 in
set_option maxHeartbeats 4000000 in
theorem rhead_27 (m n : Nat) (hm : m < 8) (hn : n < 18446744073709551616) (h1 : 4294967296 ≤ n) (w : World) : Calls Tryz.prog 37 #[.int .i64 m, .int .u64 n] w fun e w' => e = .returned (.string (str (UInt8.ofNat (m * 32 + 27) :: be n 8))) ∧ Below w.heap.size w w' := by
  obtain ⟨Z, hZ⟩ : ∃ Z : Int, bits .or .u8 ((m : Int) * 32) 27 = Z := ⟨_, rfl⟩
  have hv : Z = ((m * 32 + 27 : Nat) : Int) := by rw [← hZ]; exact or8 m 27 hm (by decide)
  have hv2 : m * 32 + 27 < 256 := by omega
  obtain ⟨v, hvv⟩ : ∃ v, m * 32 + 27 = v := ⟨_, rfl⟩
  rw [hvv] at hv hv2
  have HV := Lib.hid hv; have HV2 := Lib.hid hv2
  have hst := str_app [UInt8.ofNat v] (be n 8)
  obtain ⟨c, hc⟩ : ∃ c, UInt8.ofNat v = c := ⟨_, rfl⟩
  have HC := Lib.hid hc
  obtain ⟨N, hN⟩ : ∃ N : Int, (n : Int) = N := ⟨_, rfl⟩
  have KB : Hid (∀ W, Calls Tryz.prog 70 #[.int .u64 N, .int .i64 8] W fun e w' => e = .returned (.string (str (be n 8))) ∧ Below W.heap.size W w') := Lib.hid (fun W => by rw [← hN]; exact rbytes n 8 hn (by decide) W)
  have hcv := conv_one w v hv2 Z hv w.heap.size rfl
  have hcd := conv_kept hv2 hv (rfl : w.heap.size = w.heap.size) (Below.drew (Below.refl _ (w.alloc (.cells #[.int .u8 Z] 5))))
  have hce := conv_one w.drew v hv2 Z hv w.heap.size rfl
  have b0 : (m : Int) < 8 := by omega
  have c1 : ¬ N < 24 := by omega
  have c2 : ¬ N < 256 := by omega
  have c3 : ¬ N < 65536 := by omega
  have c4 : ¬ N < 4294967296 := by omega
  rw [hvv, hc]
  rw [hc] at hcv hcd hce hst
  clear hm hv hv2 hvv hc hn h1
  obtain ⟨S, hS⟩ : ∃ S, str (c :: be n 8) = S := ⟨_, rfl⟩
  have hst2 : str [c] ++ str (be n 8) = S := by rw [hst]; exact hS
  rw [hS, hN]
  clear hst hS hN
  go_enter Tryz.func37, Tryz.ntmps37
  go_wp2_with fail
  go_region_with (go_at_call 70; ((with_reducible refine (KB.out _).mono ?_); rintro e wb ⟨rfl, hb⟩; first | (have hcb := conv_kept HV2.out HV.out rfl hb; rw [HC.out] at hcb; have hbw : Below w.heap.size w wb := btr (by repeat (first | (with_reducible exact Below.refl _ _) | (with_reducible refine bal ?_ _) | (with_reducible refine Below.drew ?_) | (with_reducible refine bdn ?_ _))) hb) | (have hcb := conv_kept (W := w) HV2.out HV.out rfl (btr (Below.drew (Below.refl _ _)) hb); rw [HC.out] at hcb; have hbw : Below w.heap.size w wb := btr (by repeat (first | (with_reducible exact Below.refl _ _) | (with_reducible refine bal ?_ _) | (with_reducible refine Below.drew ?_) | (with_reducible refine bdn ?_ _))) hb) | (have hcb := conv_kept (W := w.drew) (g := w.heap.size) HV2.out HV.out rfl hb; rw [HC.out] at hcb; have hbw : Below w.heap.size w wb := btr (by repeat (first | (with_reducible exact Below.refl _ _) | (with_reducible refine bal ?_ _) | (with_reducible refine Below.drew ?_) | (with_reducible refine bdn ?_ _))) hb) | (have hcb := conv_one wb _ HV2.out Z HV.out wb.heap.size rfl; rw [HC.out] at hcb; have hbw : Below w.heap.size w wb := btr (by repeat (first | (with_reducible exact Below.refl _ _) | (with_reducible refine bal ?_ _) | (with_reducible refine Below.drew ?_) | (with_reducible refine bdn ?_ _))) hb)))
  all_goals
    go_wp2
    go_ret
    exact ⟨rfl, by repeat (first | (with_reducible exact hbw) | (with_reducible refine bal ?_ _) | (with_reducible refine Below.drew ?_) | (with_reducible refine bdn ?_ _))⟩
theorem rhead (m n : Nat) (hm : m < 8) (hn : n < 18446744073709551616) (w : World) : Calls Tryz.prog 37 #[.int .i64 m, .int .u64 n] w fun e w' => e = .returned (.string (str (hds m n))) ∧ Below w.heap.size w w' := by
  by_cases h1 : n < 24
  · exact rhead_low m n hm h1 w
  unfold hds hby
  by_cases h2 : n < 256
  · rw [show sinf n = 24 by unfold sinf; rw [if_neg h1, if_pos h2], hsz_24]; exact rhead_24 m n hm hn (by omega) h2 w
  by_cases h3 : n < 65536
  · rw [show sinf n = 25 by unfold sinf; rw [if_neg h1, if_neg h2, if_pos h3], hsz_25]; exact rhead_25 m n hm hn (by omega) h3 w
  by_cases h4 : n < 4294967296
  · rw [show sinf n = 26 by unfold sinf; rw [if_neg h1, if_neg h2, if_neg h3, if_pos h4], hsz_26]; exact rhead_26 m n hm hn (by omega) h4 w
  · rw [show sinf n = 27 by unfold sinf; rw [if_neg h1, if_neg h2, if_neg h3, if_neg h4], hsz_27]; exact rhead_27 m n hm hn (by omega) w
end Go.Proofs.YtgcfhoglcdgekaaGreatDoor
