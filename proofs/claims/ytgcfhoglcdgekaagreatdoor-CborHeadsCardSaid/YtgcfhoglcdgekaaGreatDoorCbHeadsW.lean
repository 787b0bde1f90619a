/-
  entrepotlaw8.CborHeads: the walk.
-/
import Derived.Test.YtgcfhoglcdgekaaGreatDoorCbHeadsM
import Derived.Deep.Cut
import Derived.Deep.DeepCutAuto
import Derived.Deep.CutBlock
namespace Go.Proofs.YtgcfhoglcdgekaaGreatDoor
open Go.RowKit Go.Shelf
open Go.Sort (grow)
attribute [local go_sem ↓] eql_nat neq_nat eql_int5 neq_int5
set_option linter.unusedVariables false

theorem row5_eq {W : World} {b : Nat} {g : Value} {a0 a1 a2 a3 b0 b1 b2 b3 : Int} (h : Row5 W b g (.int .u64 a0) (.int .u64 a1) (.int .u64 a2) (.int .u64 a3)) (e0 : b0 = a0) (e1 : b1 = a1) (e2 : b2 = a2) (e3 : b3 = a3) : Row5 W b g (.int .u64 b0) (.int .u64 b1) (.int .u64 b2) (.int .u64 b3) := by subst e0 e1 e2 e3; exact h
theorem size_alloc8 (W : World) (o : Obj) : (W.alloc o).heap.size = W.heap.size + 1 := by simp
theorem eq5_own8 (c : Bool) (v : Nat) (h : v < 2 ^ 256) : eq5 c (lb 0 v) (lb 1 v) (lb 2 v) (lb 3 v) c (lb 0 v) (lb 1 v) (lb 2 v) (lb 3 v) = true := by
  rw [eq5_int c c v v h h]; exact decide_eq_true ⟨rfl, rfl⟩
set_option maxRecDepth 400000 in
set_option maxHeartbeats 16000000 in
theorem heads_f (n : Nat) (hn : n < 18446744073709551616) (width zeros : Int) (q : Int) (hq : 0 ≤ q ∧ q < 6) (hqe : wrap64 ((IntKind.u64.wrap width).tmod 6) = q) (K : Nat) (h8 : 8 ≤ K) (h20 : K < 20) (hKe : wrap64 ((IntKind.u64.wrap zeros).tmod 12) = ((K : Int) - 8)) (w : World) (hT : Tb w) :
    Calls Tryz.prog 3 #[.int .u64 n, .bool false, .int .i64 width, .int .i64 zeros] w fun e w' => e = .returned (.bool true) ∧ Below w.heap.size w w' := by
  obtain ⟨i0, hi, hz0, hz1, hz2⟩ := info_at info_u8
  have HT := Lib.hid hT; have HN := Lib.hid hn; have HQE := Lib.hid hqe; have HKE := Lib.hid hKe; have H8 := Lib.hid h8; have H20 := Lib.hid h20
  clear hT hqe hKe h8 h20
  go_enter Tryz.func3, Tryz.ntmps3
  go_upto_region 2 with (fail)
  rw [HQE.out]
  clear HQE
  go_upto_block 0 with (fail)
  go_cut [0, 11] (fun s0 s11 wx => ∃ (N : Nat) (l : List UInt8), s0 = .int .u64 N ∧ Hid (WayH false N l) ∧ Hid (Bo wx w.heap.size s11 l) ∧ Hid (Below w.heap.size w wx))
  case first =>
    rcases (show q = 0 ∨ q = 1 ∨ q = 2 ∨ q = 3 ∨ q = 4 ∨ q = 5 by omega) with rfl | rfl | rfl | rfl | rfl | rfl
    · clear hq
      obtain ⟨N, hN⟩ : ∃ N, n % 24 = N := ⟨_, rfl⟩
      have hN24 : N < 24 := by omega
      have e24 : (n : Int).tmod 24 = (N : Int) := by rw [Int.tmod_eq_emod_of_nonneg (by omega)]; omega
      have b1 : (N : Int) < 24 := by omega
      have b0 : (0 : Int) ≤ (N : Int) := by omega
      obtain ⟨Z, hZ⟩ : ∃ Z : Int, bits .or .u8 0 (N : Int) = Z := ⟨_, rfl⟩
      have HB := Lib.hid (bo_lit1 w (v := 0 + N) (by omega) (Z := Z) (by rw [← hZ, or_zero8 (by omega)] <;> omega))
      have WY : Hid (WayH false N [UInt8.ofNat (0 + N)]) := Lib.hid (by have := way_head false (a := N) (by omega) (by omega) (fun _ => rfl) (fun h => absurd hN24 h); rw [show hby (if false then 1 else 0) N N = [UInt8.ofNat (0 + N)] from by unfold hby; rw [hsz_low hN24]; rfl] at this; exact this)
      clear hN hN24
      go_wp2
      go_meet
      exact ⟨N, _, rfl, WY, HB, Lib.hid (bal (Below.refl _ _) _)⟩
    · clear hq
      obtain ⟨N, hN⟩ : ∃ N, n % 256 = N := ⟨_, rfl⟩
      have hand : bits .and .u64 (n : Int) 255 = (N : Int) := by rw [← hN]; exact mask_at n 8 HN.out (by decide) _ (by decide)
      have hNM : N < 256 := by omega
      have hor : bits .or .u8 0 24 = 24 := by decide
      have O0 : Hid (Bo (w.alloc (.cells #[.int .u8 24] 5)) w.heap.size (.slice (some ⟨w.heap.size, 0, none⟩) 1 1) [UInt8.ofNat 24]) := Lib.hid (bo_lit1 w (by decide) rfl)
      have B0 := Lib.hid (bal (Below.refl w.heap.size w) (.cells #[.int .u8 24] 5))
      have HE0 : Hid ([UInt8.ofNat 24] ++ be N 1 = hby 0 24 N) := Lib.hid (by unfold hby; rw [hsz_24]; rfl)
      have HWY : Hid (WayH false N (hby 0 24 N)) := Lib.hid (way_head false (by decide) (by omega) (fun h => absurd h (by decide)) (fun _ => by rw [hsz_24]; omega))
      clear hNM hN
      go_wp2_with fail
      go_loopw [11, 13] (fun bv iv wr => ∃ (k : Nat) (j : Int) (l1 : List UInt8), k ≤ 1 ∧ j + 1 = (k : Int) ∧ iv = .int .i64 j ∧ l1.length + k = 2 ∧ Hid (Bo wr w.heap.size bv l1) ∧ Hid (l1 ++ be N k = hby 0 24 N) ∧ Hid (Below w.heap.size w wr)) (fun _ iv _ => (intOf iv + 1).toNat)
      case atStart => exact ⟨1, 0, [UInt8.ofNat 24], Nat.le_refl _, by decide, rfl, rfl, O0, HE0, B0⟩
      case round =>
        obtain ⟨k, j, l1, hk, hj, rfl, hlen, BR, HE, WR⟩ := hrel
        clear B0 O0 HE0
        rename World => wr
        cases k with
        | zero =>
          obtain rfl : j = -1 := by simp at hj; omega
          have e := HE.out
          rw [be_zero, List.append_nil] at e
          have BR2 := Lib.hid (e ▸ BR.out)
          have hneg : ¬ (0 : Int) ≤ -1 := by decide
          clear e HE BR
          go_wp2
          go_meet
          exact ⟨N, _, rfl, HWY, BR2, WR⟩
        | succ k =>
          obtain rfl : j = (k : Int) := by omega
          have hws := WR.out.size
          have HK9 := Lib.hid hk; have HL9 := Lib.hid hlen
          have hl20 : l1.length ≤ 40 := by omega
          obtain ⟨r, hr⟩ : ∃ r : Nat, 8 * k = r := ⟨_, rfl⟩
          have hr1 : 8 * (k : Int) = (r : Int) := by omega
          have hr2 : (r : Int).toNat = r := Int.toNat_natCast r
          have hr3 : (0 : Int) ≤ (r : Int) := by omega
          have hr4 : r ≤ 64 := by omega
          have HX : Hid (((N : Int) / 2 ^ r) % 256 = ((UInt8.ofNat (N / 256 ^ k)).toNat : Int)) := by
            show _ = _
            rw [be_step, hr]
            simp
          obtain ⟨X, hX⟩ : ∃ X : Int, (N : Int) / 2 ^ r % 256 = X := ⟨_, rfl⟩
          rw [hX] at HX
          have HE2 : Hid ((l1 ++ [UInt8.ofNat (N / 256 ^ k)]) ++ be N k = hby 0 24 N) := by
            show _ = _
            rw [← HE.out, be_succ, List.append_assoc]; rfl
          clear hr
          have WN := Lib.hid (bal WR.out (.cells #[.int .u8 X] 5))
          have hlow := Lib.hid (fun k (h : u11.ownBlock = some k) => (World.ownsRow.lt BR.out k h).1)
          clear HE hj hk hlen
          go_wp2_with (at_builtin; refine wpList_append_lies _ rfl (.tmp 101) (.tmp 108) 24 rfl w.heap.size 5 i0 (.int .u8 0) 1 1 und_u8s hi hz0 hz1 hz2 rfl (by decide) u11 l1.length _ rfl (World.ownsRow.alloc BR.out _) ⟨wr.heap.size, 0, none⟩ 1 1 [.int .u8 X] rfl rfl (cell_of_str0 _ _ _ _ (by simp)) (one_new1 _ _) (by decide) (by unfold maxLen; omega) (by omega) (by simp; omega) _ rfl ?_; intro g2 cap2 w3 hown hgrow hat hlt; have B1 := Lib.hid (Bo.snoc hown HX.out); have W1 := Lib.hid (WN.out.grown hgrow WN.out.size (fun k hk => hlow.out k hk)); clear hown hgrow hat hlt)
          go_roundw
          case rel => exact ⟨k, (k : Int) - 1, l1 ++ [UInt8.ofNat (N / 256 ^ k)], by have := HK9.out; omega, by omega, by go_num, by have := HL9.out; rw [List.length_append]; simp <;> omega, B1, HE2, W1⟩
          case measure => simp [intOf]
    · clear hq
      obtain ⟨N, hN⟩ : ∃ N, n % 65536 = N := ⟨_, rfl⟩
      have hand : bits .and .u64 (n : Int) 65535 = (N : Int) := by rw [← hN]; exact mask_at n 16 HN.out (by decide) _ (by decide)
      have hNM : N < 65536 := by omega
      have hor : bits .or .u8 0 25 = 25 := by decide
      have O0 : Hid (Bo (w.alloc (.cells #[.int .u8 25] 5)) w.heap.size (.slice (some ⟨w.heap.size, 0, none⟩) 1 1) [UInt8.ofNat 25]) := Lib.hid (bo_lit1 w (by decide) rfl)
      have B0 := Lib.hid (bal (Below.refl w.heap.size w) (.cells #[.int .u8 25] 5))
      have HE0 : Hid ([UInt8.ofNat 25] ++ be N 2 = hby 0 25 N) := Lib.hid (by unfold hby; rw [hsz_25]; rfl)
      have HWY : Hid (WayH false N (hby 0 25 N)) := Lib.hid (way_head false (by decide) (by omega) (fun h => absurd h (by decide)) (fun _ => by rw [hsz_25]; omega))
      clear hNM hN
      go_wp2_with fail
      go_loopw [11, 13] (fun bv iv wr => ∃ (k : Nat) (j : Int) (l1 : List UInt8), k ≤ 2 ∧ j + 1 = (k : Int) ∧ iv = .int .i64 j ∧ l1.length + k = 3 ∧ Hid (Bo wr w.heap.size bv l1) ∧ Hid (l1 ++ be N k = hby 0 25 N) ∧ Hid (Below w.heap.size w wr)) (fun _ iv _ => (intOf iv + 1).toNat)
      case atStart => exact ⟨2, 1, [UInt8.ofNat 25], Nat.le_refl _, by decide, rfl, rfl, O0, HE0, B0⟩
      case round =>
        obtain ⟨k, j, l1, hk, hj, rfl, hlen, BR, HE, WR⟩ := hrel
        clear B0 O0 HE0
        rename World => wr
        cases k with
        | zero =>
          obtain rfl : j = -1 := by simp at hj; omega
          have e := HE.out
          rw [be_zero, List.append_nil] at e
          have BR2 := Lib.hid (e ▸ BR.out)
          have hneg : ¬ (0 : Int) ≤ -1 := by decide
          clear e HE BR
          go_wp2
          go_meet
          exact ⟨N, _, rfl, HWY, BR2, WR⟩
        | succ k =>
          obtain rfl : j = (k : Int) := by omega
          have hws := WR.out.size
          have HK9 := Lib.hid hk; have HL9 := Lib.hid hlen
          have hl20 : l1.length ≤ 40 := by omega
          obtain ⟨r, hr⟩ : ∃ r : Nat, 8 * k = r := ⟨_, rfl⟩
          have hr1 : 8 * (k : Int) = (r : Int) := by omega
          have hr2 : (r : Int).toNat = r := Int.toNat_natCast r
          have hr3 : (0 : Int) ≤ (r : Int) := by omega
          have hr4 : r ≤ 64 := by omega
          have HX : Hid (((N : Int) / 2 ^ r) % 256 = ((UInt8.ofNat (N / 256 ^ k)).toNat : Int)) := by
            show _ = _
            rw [be_step, hr]
            simp
          obtain ⟨X, hX⟩ : ∃ X : Int, (N : Int) / 2 ^ r % 256 = X := ⟨_, rfl⟩
          rw [hX] at HX
          have HE2 : Hid ((l1 ++ [UInt8.ofNat (N / 256 ^ k)]) ++ be N k = hby 0 25 N) := by
            show _ = _
            rw [← HE.out, be_succ, List.append_assoc]; rfl
          clear hr
          have WN := Lib.hid (bal WR.out (.cells #[.int .u8 X] 5))
          have hlow := Lib.hid (fun k (h : u11.ownBlock = some k) => (World.ownsRow.lt BR.out k h).1)
          clear HE hj hk hlen
          go_wp2_with (at_builtin; refine wpList_append_lies _ rfl (.tmp 101) (.tmp 108) 24 rfl w.heap.size 5 i0 (.int .u8 0) 1 1 und_u8s hi hz0 hz1 hz2 rfl (by decide) u11 l1.length _ rfl (World.ownsRow.alloc BR.out _) ⟨wr.heap.size, 0, none⟩ 1 1 [.int .u8 X] rfl rfl (cell_of_str0 _ _ _ _ (by simp)) (one_new1 _ _) (by decide) (by unfold maxLen; omega) (by omega) (by simp; omega) _ rfl ?_; intro g2 cap2 w3 hown hgrow hat hlt; have B1 := Lib.hid (Bo.snoc hown HX.out); have W1 := Lib.hid (WN.out.grown hgrow WN.out.size (fun k hk => hlow.out k hk)); clear hown hgrow hat hlt)
          go_roundw
          case rel => exact ⟨k, (k : Int) - 1, l1 ++ [UInt8.ofNat (N / 256 ^ k)], by have := HK9.out; omega, by omega, by go_num, by have := HL9.out; rw [List.length_append]; simp <;> omega, B1, HE2, W1⟩
          case measure => simp [intOf]
    · clear hq
      obtain ⟨N, hN⟩ : ∃ N, n % 4294967296 = N := ⟨_, rfl⟩
      have hand : bits .and .u64 (n : Int) 4294967295 = (N : Int) := by rw [← hN]; exact mask_at n 32 HN.out (by decide) _ (by decide)
      have hNM : N < 4294967296 := by omega
      have hor : bits .or .u8 0 26 = 26 := by decide
      have O0 : Hid (Bo (w.alloc (.cells #[.int .u8 26] 5)) w.heap.size (.slice (some ⟨w.heap.size, 0, none⟩) 1 1) [UInt8.ofNat 26]) := Lib.hid (bo_lit1 w (by decide) rfl)
      have B0 := Lib.hid (bal (Below.refl w.heap.size w) (.cells #[.int .u8 26] 5))
      have HE0 : Hid ([UInt8.ofNat 26] ++ be N 4 = hby 0 26 N) := Lib.hid (by unfold hby; rw [hsz_26]; rfl)
      have HWY : Hid (WayH false N (hby 0 26 N)) := Lib.hid (way_head false (by decide) (by omega) (fun h => absurd h (by decide)) (fun _ => by rw [hsz_26]; omega))
      clear hNM hN
      go_wp2_with fail
      go_loopw [11, 13] (fun bv iv wr => ∃ (k : Nat) (j : Int) (l1 : List UInt8), k ≤ 4 ∧ j + 1 = (k : Int) ∧ iv = .int .i64 j ∧ l1.length + k = 5 ∧ Hid (Bo wr w.heap.size bv l1) ∧ Hid (l1 ++ be N k = hby 0 26 N) ∧ Hid (Below w.heap.size w wr)) (fun _ iv _ => (intOf iv + 1).toNat)
      case atStart => exact ⟨4, 3, [UInt8.ofNat 26], Nat.le_refl _, by decide, rfl, rfl, O0, HE0, B0⟩
      case round =>
        obtain ⟨k, j, l1, hk, hj, rfl, hlen, BR, HE, WR⟩ := hrel
        clear B0 O0 HE0
        rename World => wr
        cases k with
        | zero =>
          obtain rfl : j = -1 := by simp at hj; omega
          have e := HE.out
          rw [be_zero, List.append_nil] at e
          have BR2 := Lib.hid (e ▸ BR.out)
          have hneg : ¬ (0 : Int) ≤ -1 := by decide
          clear e HE BR
          go_wp2
          go_meet
          exact ⟨N, _, rfl, HWY, BR2, WR⟩
        | succ k =>
          obtain rfl : j = (k : Int) := by omega
          have hws := WR.out.size
          have HK9 := Lib.hid hk; have HL9 := Lib.hid hlen
          have hl20 : l1.length ≤ 40 := by omega
          obtain ⟨r, hr⟩ : ∃ r : Nat, 8 * k = r := ⟨_, rfl⟩
          have hr1 : 8 * (k : Int) = (r : Int) := by omega
          have hr2 : (r : Int).toNat = r := Int.toNat_natCast r
          have hr3 : (0 : Int) ≤ (r : Int) := by omega
          have hr4 : r ≤ 64 := by omega
          have HX : Hid (((N : Int) / 2 ^ r) % 256 = ((UInt8.ofNat (N / 256 ^ k)).toNat : Int)) := by
            show _ = _
            rw [be_step, hr]
            simp
          obtain ⟨X, hX⟩ : ∃ X : Int, (N : Int) / 2 ^ r % 256 = X := ⟨_, rfl⟩
          rw [hX] at HX
          have HE2 : Hid ((l1 ++ [UInt8.ofNat (N / 256 ^ k)]) ++ be N k = hby 0 26 N) := by
            show _ = _
            rw [← HE.out, be_succ, List.append_assoc]; rfl
          clear hr
          have WN := Lib.hid (bal WR.out (.cells #[.int .u8 X] 5))
          have hlow := Lib.hid (fun k (h : u11.ownBlock = some k) => (World.ownsRow.lt BR.out k h).1)
          clear HE hj hk hlen
          go_wp2_with (at_builtin; refine wpList_append_lies _ rfl (.tmp 101) (.tmp 108) 24 rfl w.heap.size 5 i0 (.int .u8 0) 1 1 und_u8s hi hz0 hz1 hz2 rfl (by decide) u11 l1.length _ rfl (World.ownsRow.alloc BR.out _) ⟨wr.heap.size, 0, none⟩ 1 1 [.int .u8 X] rfl rfl (cell_of_str0 _ _ _ _ (by simp)) (one_new1 _ _) (by decide) (by unfold maxLen; omega) (by omega) (by simp; omega) _ rfl ?_; intro g2 cap2 w3 hown hgrow hat hlt; have B1 := Lib.hid (Bo.snoc hown HX.out); have W1 := Lib.hid (WN.out.grown hgrow WN.out.size (fun k hk => hlow.out k hk)); clear hown hgrow hat hlt)
          go_roundw
          case rel => exact ⟨k, (k : Int) - 1, l1 ++ [UInt8.ofNat (N / 256 ^ k)], by have := HK9.out; omega, by omega, by go_num, by have := HL9.out; rw [List.length_append]; simp <;> omega, B1, HE2, W1⟩
          case measure => simp [intOf]
    · clear hq
      have hNM : n < 18446744073709551616 := HN.out
      have hor : bits .or .u8 0 27 = 27 := by decide
      have O0 : Hid (Bo (w.alloc (.cells #[.int .u8 27] 5)) w.heap.size (.slice (some ⟨w.heap.size, 0, none⟩) 1 1) [UInt8.ofNat 27]) := Lib.hid (bo_lit1 w (by decide) rfl)
      have B0 := Lib.hid (bal (Below.refl w.heap.size w) (.cells #[.int .u8 27] 5))
      have HE0 : Hid ([UInt8.ofNat 27] ++ be n 8 = hby 0 27 n) := Lib.hid (by unfold hby; rw [hsz_27]; rfl)
      have HWY : Hid (WayH false n (hby 0 27 n)) := Lib.hid (way_head false (by decide) (by omega) (fun h => absurd h (by decide)) (fun _ => by rw [hsz_27]; omega))
      clear hNM
      go_wp2_with fail
      go_loopw [11, 13] (fun bv iv wr => ∃ (k : Nat) (j : Int) (l1 : List UInt8), k ≤ 8 ∧ j + 1 = (k : Int) ∧ iv = .int .i64 j ∧ l1.length + k = 9 ∧ Hid (Bo wr w.heap.size bv l1) ∧ Hid (l1 ++ be n k = hby 0 27 n) ∧ Hid (Below w.heap.size w wr)) (fun _ iv _ => (intOf iv + 1).toNat)
      case atStart => exact ⟨8, 7, [UInt8.ofNat 27], Nat.le_refl _, by decide, rfl, rfl, O0, HE0, B0⟩
      case round =>
        obtain ⟨k, j, l1, hk, hj, rfl, hlen, BR, HE, WR⟩ := hrel
        clear B0 O0 HE0
        rename World => wr
        cases k with
        | zero =>
          obtain rfl : j = -1 := by simp at hj; omega
          have e := HE.out
          rw [be_zero, List.append_nil] at e
          have BR2 := Lib.hid (e ▸ BR.out)
          have hneg : ¬ (0 : Int) ≤ -1 := by decide
          clear e HE BR
          go_wp2
          go_meet
          exact ⟨n, _, rfl, HWY, BR2, WR⟩
        | succ k =>
          obtain rfl : j = (k : Int) := by omega
          have hws := WR.out.size
          have HK9 := Lib.hid hk; have HL9 := Lib.hid hlen
          have hl20 : l1.length ≤ 40 := by omega
          obtain ⟨r, hr⟩ : ∃ r : Nat, 8 * k = r := ⟨_, rfl⟩
          have hr1 : 8 * (k : Int) = (r : Int) := by omega
          have hr2 : (r : Int).toNat = r := Int.toNat_natCast r
          have hr3 : (0 : Int) ≤ (r : Int) := by omega
          have hr4 : r ≤ 64 := by omega
          have HX : Hid (((n : Int) / 2 ^ r) % 256 = ((UInt8.ofNat (n / 256 ^ k)).toNat : Int)) := by
            show _ = _
            rw [be_step, hr]
            simp
          obtain ⟨X, hX⟩ : ∃ X : Int, (n : Int) / 2 ^ r % 256 = X := ⟨_, rfl⟩
          rw [hX] at HX
          have HE2 : Hid ((l1 ++ [UInt8.ofNat (n / 256 ^ k)]) ++ be n k = hby 0 27 n) := by
            show _ = _
            rw [← HE.out, be_succ, List.append_assoc]; rfl
          clear hr
          have WN := Lib.hid (bal WR.out (.cells #[.int .u8 X] 5))
          have hlow := Lib.hid (fun k (h : u11.ownBlock = some k) => (World.ownsRow.lt BR.out k h).1)
          clear HE hj hk hlen
          go_wp2_with (at_builtin; refine wpList_append_lies _ rfl (.tmp 101) (.tmp 108) 24 rfl w.heap.size 5 i0 (.int .u8 0) 1 1 und_u8s hi hz0 hz1 hz2 rfl (by decide) u11 l1.length _ rfl (World.ownsRow.alloc BR.out _) ⟨wr.heap.size, 0, none⟩ 1 1 [.int .u8 X] rfl rfl (cell_of_str0 _ _ _ _ (by simp)) (one_new1 _ _) (by decide) (by unfold maxLen; omega) (by omega) (by simp; omega) _ rfl ?_; intro g2 cap2 w3 hown hgrow hat hlt; have B1 := Lib.hid (Bo.snoc hown HX.out); have W1 := Lib.hid (WN.out.grown hgrow WN.out.size (fun k hk => hlow.out k hk)); clear hown hgrow hat hlt)
          go_roundw
          case rel => exact ⟨k, (k : Int) - 1, l1 ++ [UInt8.ofNat (n / 256 ^ k)], by have := HK9.out; omega, by omega, by go_num, by have := HL9.out; rw [List.length_append]; simp <;> omega, B1, HE2, W1⟩
          case measure => simp [intOf]
    · clear hq
      have hK8 := H8.out; have hK20 := H20.out
      have hK8s : wrap64 (8 + ((K : Int) - 8)) = (K : Int) := by unfold wrap64; omega
      go_upto_region 8 with (fail)
      rw [HKE.out, hK8s]
      clear hK8s
      have bK : (K : Int) < 20 := by omega
      have bK0 : (8 : Int) ≤ (K : Int) := by omega
      have hor1 : bits .or .u8 194 0 = 194 := by decide
      obtain ⟨Z, hZ⟩ : ∃ Z : Int, bits .or .u8 64 (K : Int) = Z := ⟨_, rfl⟩
      have O0 : Hid (Bo (w.alloc (.cells #[.int .u8 194, .int .u8 Z] 5)) w.heap.size (.slice (some ⟨w.heap.size, 0, none⟩) 2 2) [UInt8.ofNat 194, UInt8.ofNat (64 + K)]) := Lib.hid (bo_lit2 w (by decide) (by omega) rfl (by rw [← hZ, or_64 (by omega)]))
      have B0 := Lib.hid (bal (Below.refl w.heap.size w) (.cells #[.int .u8 194, .int .u8 Z] 5))
      have HE0 : Hid ([UInt8.ofNat 194, UInt8.ofNat (64 + K)] ++ padZ n K = hby 6 2 2 ++ (hby 2 (padZ n K).length (padZ n K).length ++ padZ n K)) := Lib.hid (by rw [pad_len]; unfold hby; rw [hsz_low (by decide), hsz_low (show K < 24 by omega), be_zero, be_zero]; rfl)
      have HWY : Hid (WayH false n (hby 6 2 2 ++ (hby 2 (padZ n K).length (padZ n K).length ++ padZ n K))) := Lib.hid (way_big false HN.out (by rw [pad_len]; exact hK8) (by rw [pad_len]; omega) (nb_pad HN.out hK8))
      clear hK8 hK20
      go_wp2_with fail
      go_loopw [11, 15] (fun bv iv wr => ∃ (k : Nat) (j : Int) (l1 : List UInt8), k ≤ K ∧ j + 1 = (k : Int) ∧ iv = .int .i64 j ∧ l1.length + k = K + 2 ∧ Hid (Bo wr w.heap.size bv l1) ∧ Hid (l1 ++ padZ n k = hby 6 2 2 ++ (hby 2 (padZ n K).length (padZ n K).length ++ padZ n K)) ∧ Hid (Below w.heap.size w wr)) (fun _ iv _ => (intOf iv + 1).toNat)
      case atStart => exact ⟨K, (K : Int) - 1, [UInt8.ofNat 194, UInt8.ofNat (64 + K)], Nat.le_refl _, by omega, by go_num, by simp <;> omega, O0, HE0, B0⟩
      case round =>
        obtain ⟨k, j, l1, hk, hj, rfl, hlen, BR, HE, WR⟩ := hrel
        clear B0 O0 HE0
        rename World => wr
        cases k with
        | zero =>
          obtain rfl : j = -1 := by simp at hj; omega
          have e := HE.out
          rw [show padZ n 0 = [] from rfl, List.append_nil] at e
          have BR2 := Lib.hid (e ▸ BR.out)
          have hneg : ¬ (0 : Int) ≤ -1 := by decide
          clear e HE BR
          go_wp2
          go_meet
          exact ⟨n, _, rfl, HWY, BR2, WR⟩
        | succ k =>
          obtain rfl : j = (k : Int) := by omega
          have hws := WR.out.size
          have HK9 := Lib.hid hk; have HL9 := Lib.hid hlen
          have hl20 : l1.length ≤ 40 := by omega
          by_cases hk8 : k < 8
          · obtain ⟨r, hr⟩ : ∃ r : Nat, 8 * k = r := ⟨_, rfl⟩
            have hr1 : 8 * (k : Int) = (r : Int) := by omega
            have hr2 : (r : Int).toNat = r := Int.toNat_natCast r
            have hr3 : (0 : Int) ≤ (r : Int) := by omega
            have hr4 : r ≤ 64 := by omega
            have HX : Hid (((n : Int) / 2 ^ r) % 256 = ((UInt8.ofNat (n / 256 ^ k)).toNat : Int)) := by
              show _ = _
              rw [be_step, hr]
              simp
            obtain ⟨X, hX⟩ : ∃ X : Int, (n : Int) / 2 ^ r % 256 = X := ⟨_, rfl⟩
            rw [hX] at HX
            have hi8 : (k : Int) < 8 := by omega
            have HE2 : Hid ((l1 ++ [UInt8.ofNat (n / 256 ^ k)]) ++ padZ n k = hby 6 2 2 ++ (hby 2 (padZ n K).length (padZ n K).length ++ padZ n K)) := by
              show _ = _
              rw [← HE.out, pad_low n hk8, List.append_assoc]; rfl
            clear hr
            have WN := Lib.hid (bal WR.out (.cells #[.int .u8 X] 5))
            have hlow := Lib.hid (fun k (h : u11.ownBlock = some k) => (World.ownsRow.lt BR.out k h).1)
            clear HE hj hk hlen
            go_wp2_with (at_builtin; refine wpList_append_lies _ rfl (.tmp 58) (.tmp 60) 24 rfl w.heap.size 5 i0 (.int .u8 0) 1 1 und_u8s hi hz0 hz1 hz2 rfl (by decide) u11 l1.length _ rfl (World.ownsRow.alloc BR.out _) ⟨wr.heap.size, 0, none⟩ 1 1 [.int .u8 X] rfl rfl (cell_of_str0 _ _ _ _ (by simp)) (one_new1 _ _) (by decide) (by unfold maxLen; omega) (by omega) (by simp; omega) _ rfl ?_; intro g2 cap2 w3 hown hgrow hat hlt; have B1 := Lib.hid (Bo.snoc hown HX.out); have W1 := Lib.hid (WN.out.grown hgrow WN.out.size (fun k hk => hlow.out k hk)); clear hown hgrow hat hlt)
            go_roundw
            case rel => exact ⟨k, (k : Int) - 1, l1 ++ [UInt8.ofNat (n / 256 ^ k)], by have := HK9.out; omega, by omega, by go_num, by have := HL9.out; rw [List.length_append]; simp <;> omega, B1, HE2, W1⟩
            case measure => simp [intOf]
          · have hi8 : ¬ (k : Int) < 8 := by omega
            have bk : (k : Int) < 40 := by have := H20.out; omega
            have HE2 : Hid ((l1 ++ [(0 : UInt8)]) ++ padZ n k = hby 6 2 2 ++ (hby 2 (padZ n K).length (padZ n K).length ++ padZ n K)) := by
              show _ = _
              rw [← HE.out, pad_high n (by omega), List.append_assoc]; rfl
            have WN := Lib.hid (bal WR.out (.cells #[.int .u8 0] 5))
            have hlow := Lib.hid (fun k (h : u11.ownBlock = some k) => (World.ownsRow.lt BR.out k h).1)
            clear HE hj hk hlen
            go_wp2_with (at_builtin; refine wpList_append_lies _ rfl (.tmp 58) (.tmp 60) 24 rfl w.heap.size 5 i0 (.int .u8 0) 1 1 und_u8s hi hz0 hz1 hz2 rfl (by decide) u11 l1.length _ rfl (World.ownsRow.alloc BR.out _) ⟨wr.heap.size, 0, none⟩ 1 1 [.int .u8 0] rfl rfl (cell_of_str0 _ _ _ _ (by simp)) (one_new1 _ _) (by decide) (by unfold maxLen; omega) (by omega) (by simp; omega) _ rfl ?_; intro g2 cap2 w3 hown hgrow hat hlt; have B1 := Lib.hid (Bo.snoc (c := (0 : UInt8)) hown rfl); have W1 := Lib.hid (WN.out.grown hgrow WN.out.size (fun k hk => hlow.out k hk)); clear hown hgrow hat hlt)
            go_roundw
            case rel => exact ⟨k, (k : Int) - 1, l1 ++ [(0 : UInt8)], by have := HK9.out; omega, by omega, by go_num, by have := HL9.out; rw [List.length_append]; simp <;> omega, B1, HE2, W1⟩
            case measure => simp [intOf]
  case rest =>
    obtain ⟨N, l, rfl, WY, BO, BW⟩ := hcut
    obtain ⟨L, hL⟩ : ∃ L, l.length = L := ⟨_, rfl⟩
    obtain ⟨gg, cap, hu, _⟩ := BO.out.some WY.out.2.2.1
    rw [hL] at hu
    have HBY := Lib.hid (bo_bytes (hu ▸ BO.out))
    subst hu
    have hN := WY.out.1
    obtain ⟨x, hx⟩ : ∃ x, headI false N = x := ⟨_, rfl⟩
    have hx2 : x < 2 ^ 256 := by rw [← hx]; exact headI_lt false hN
    have hML : ((intB false x).length : Int) ≤ (L : Int) := by have h0 := WY.out.2.1; rw [← intB_head false N hN, hx, hL] at h0; omega
    have KD : Hid (∀ W cap, BytesAt W gg 0 l → Calls Tryz.prog 4 #[.slice (some ⟨gg, 0, none⟩) L cap] W fun e w' => e = .returned (.tuple #[V10 3 false (lb 0 x) (lb 1 x) (lb 2 x) (lb 3 x) 0 ⟨#[]⟩ none 0 0 none 0 0, .int .i64 0]) ∧ Below W.heap.size W w') := Lib.hid (fun W cap hb => by have := dec_way WY.out gg cap L hL W hb; rw [hx] at this; exact this)
    have KE0 := fun W (hT : Tb W) => enc_head false hN W hT
    have KR0 := fun W (hT : Tb W) => renc_int false N hN W hT
    rw [hx] at KE0 KR0
    obtain ⟨B, hB⟩ : ∃ B, intB false x = B := ⟨_, rfl⟩
    rw [hB] at KE0 KR0 hML
    obtain ⟨M, hM⟩ : ∃ M, B.length = M := ⟨_, rfl⟩
    rw [hM] at KE0 hML
    have KE : Hid (∀ W, Tb W → Calls Tryz.prog 8 #[V10 3 false (lb 0 x) (lb 1 x) (lb 2 x) (lb 3 x) 0 ⟨#[]⟩ none 0 0 none 0 0] W fun e w' => ∃ gg cap, e = .returned (.tuple #[.slice (some ⟨gg, 0, none⟩) M cap, .int .i64 0]) ∧ BytesAt w' gg 0 B ∧ Below W.heap.size W w') := Lib.hid KE0
    have KR : Hid (∀ W, Tb W → Calls Tryz.prog 9 #[V10 3 false (lb 0 x) (lb 1 x) (lb 2 x) (lb 3 x) 0 ⟨#[]⟩ none 0 0 none 0 0] W fun e w' => e = .returned (.tuple #[.string (str B), .int .i64 0]) ∧ Below W.heap.size W w') := Lib.hid KR0
    have q1 := eq5_own8 false x hx2
    have HM := Lib.hid hM; have HNN := Lib.hid hN; have HXX := Lib.hid hx; have HX2 := Lib.hid hx2
    clear KE0 KR0 hB hM hN hx hL WY BO hx2
    go_wp2_with fail
    ((with_reducible refine (KD.out _ _ HBY.out).mono ?_); rintro e w1 ⟨rfl, hb⟩)
    have B1 := Lib.hid (bal (btr BW.out hb) (.cells #[.int .i64 3, .bool false, .int .u64 (lb 0 x), .int .u64 (lb 1 x), .int .u64 (lb 2 x), .int .u64 (lb 3 x), .int .u64 0, .string ⟨#[]⟩, .slice none 0 0, .slice none 0 0] 32))
    have V1 := Lib.hid (Row10.new w1 (.int .i64 3) (.bool false) (.int .u64 (lb 0 x)) (.int .u64 (lb 1 x)) (.int .u64 (lb 2 x)) (.int .u64 (lb 3 x)) (.int .u64 0) (.string ⟨#[]⟩) (.slice none 0 0) (.slice none 0 0))
    clear hb
    have B2 := Lib.hid (bal B1.out (.cells #[.bool false, .int .u64 N, .int .u64 0, .int .u64 0, .int .u64 0] 28))
    have V2 := Lib.hid (Row10.alloc V1.out (.cells #[.bool false, .int .u64 N, .int .u64 0, .int .u64 0, .int .u64 0] 28))
    have Q2 := Row5.new (w1.alloc (.cells #[.int .i64 3, .bool false, .int .u64 (lb 0 x), .int .u64 (lb 1 x), .int .u64 (lb 2 x), .int .u64 (lb 3 x), .int .u64 0, .string ⟨#[]⟩, .slice none 0 0, .slice none 0 0] 32)) (.bool false) (.int .u64 N) (.int .u64 0) (.int .u64 0) (.int .u64 0)
    rw [size_alloc8] at Q2
    clear V1 B1
    have hs := lb_small (v := (N : Int)) (by omega) (by have := HNN.out; omega)
    rw [Int.natAbs_natCast] at hs
    obtain ⟨e0, e1, e2, e3⟩ := hs
    rw [show N = x from HXX.out] at e1 e2 e3
    have e0' : lb 0 x = (N : Int) := by rw [← show N = x from HXX.out]; exact e0
    have Q7 := row5_eq Q2 e0' e1 e2 e3
    have V7 := V2; have B7 := B2
    clear e0 e0' e1 e2 e3 Q2 V2 B2
    obtain ⟨p0, p1, p2, p3, p4, p5, p6, p7, p8, p9⟩ := V7.out.parts
    go_wp2_with fail
    ((with_reducible refine (KE.out _ (tb_on HT.out B7.out)).mono ?_); rintro e w8 ⟨g8, c8, rfl, hby, hb⟩)
    have B8 := Lib.hid (btr B7.out hb); have V8 := Lib.hid (Row10.keep hb V7.out); have Q8 := Row5.keep hb Q7; have Y8 := Lib.hid hby
    clear hb hby p0 p1 p2 p3 p4 p5 p6 p7 p8 p9 V7 B7 Q7
    obtain ⟨r0, r1, r2, r3, r4⟩ := Q8.parts
    go_wp2_with fail
    ((with_reducible refine (KR.out _ (tb_on HT.out B8.out)).mono ?_); rintro e w9 ⟨rfl, hb⟩)
    have B9 := Lib.hid (btr B8.out hb); have V9 := Lib.hid (Row10.keep hb V8.out); have Q9 := Row5.keep hb Q8; have Y9 := Lib.hid (Y8.out.keep hb)
    clear hb r0 r1 r2 r3 r4 V8 B8 Q8 Y8
    go_wp2_with fail
    ((with_reducible refine (told8_true _ (tb_on HT.out B9.out)).mono ?_); rintro e wa ⟨rfl, hb⟩)
    have Ba := Lib.hid (btr B9.out hb); have Va := Lib.hid (Row10.keep hb V9.out); have Qa := Row5.keep hb Q9; have Ya := Y9.out.keep hb
    clear hb V9 B9 Q9 Y9
    have hcv := conv_bytes wa g8 0 c8 B Ya M HM.out
    obtain ⟨p0, p1, p2, p3, p4, p5, p6, p7, p8, p9⟩ := Va.out.parts
    obtain ⟨r0, r1, r2, r3, r4⟩ := Qa.parts
    obtain ⟨S, hS⟩ : ∃ S, str B = S := ⟨_, rfl⟩
    rw [hS] at hcv ⊢
    have hs2 : (S.toList == S.toList) = true := beq_self_eq_true S.toList
    clear hS Ya
    go_wp2
    go_ret
    exact ⟨rfl, Ba.out⟩
set_option maxRecDepth 400000 in
set_option maxHeartbeats 16000000 in
theorem heads_t (n : Nat) (hn : n < 18446744073709551616) (width zeros : Int) (q : Int) (hq : 0 ≤ q ∧ q < 6) (hqe : wrap64 ((IntKind.u64.wrap width).tmod 6) = q) (K : Nat) (h8 : 8 ≤ K) (h20 : K < 20) (hKe : wrap64 ((IntKind.u64.wrap zeros).tmod 12) = ((K : Int) - 8)) (w : World) (hT : Tb w) :
    Calls Tryz.prog 3 #[.int .u64 n, .bool true, .int .i64 width, .int .i64 zeros] w fun e w' => e = .returned (.bool true) ∧ Below w.heap.size w w' := by
  obtain ⟨i0, hi, hz0, hz1, hz2⟩ := info_at info_u8
  have HT := Lib.hid hT; have HN := Lib.hid hn; have HQE := Lib.hid hqe; have HKE := Lib.hid hKe; have H8 := Lib.hid h8; have H20 := Lib.hid h20
  clear hT hqe hKe h8 h20
  go_enter Tryz.func3, Tryz.ntmps3
  go_upto_region 2 with (fail)
  rw [HQE.out]
  clear HQE
  go_upto_block 0 with (fail)
  go_cut [0, 11] (fun s0 s11 wx => ∃ (N : Nat) (l : List UInt8), s0 = .int .u64 N ∧ Hid (WayH true N l) ∧ Hid (Bo wx w.heap.size s11 l) ∧ Hid (Below w.heap.size w wx))
  case first =>
    rcases (show q = 0 ∨ q = 1 ∨ q = 2 ∨ q = 3 ∨ q = 4 ∨ q = 5 by omega) with rfl | rfl | rfl | rfl | rfl | rfl
    · clear hq
      obtain ⟨N, hN⟩ : ∃ N, n % 24 = N := ⟨_, rfl⟩
      have hN24 : N < 24 := by omega
      have e24 : (n : Int).tmod 24 = (N : Int) := by rw [Int.tmod_eq_emod_of_nonneg (by omega)]; omega
      have b1 : (N : Int) < 24 := by omega
      have b0 : (0 : Int) ≤ (N : Int) := by omega
      obtain ⟨Z, hZ⟩ : ∃ Z : Int, bits .or .u8 32 (N : Int) = Z := ⟨_, rfl⟩
      have HB := Lib.hid (bo_lit1 w (v := 32 + N) (by omega) (Z := Z) (by rw [← hZ, or_32 (by omega)] <;> omega))
      have WY : Hid (WayH true N [UInt8.ofNat (32 + N)]) := Lib.hid (by have := way_head true (a := N) (by omega) (by omega) (fun _ => rfl) (fun h => absurd hN24 h); rw [show hby (if true then 1 else 0) N N = [UInt8.ofNat (32 + N)] from by unfold hby; rw [hsz_low hN24]; rfl] at this; exact this)
      clear hN hN24
      go_wp2
      go_meet
      exact ⟨N, _, rfl, WY, HB, Lib.hid (bal (Below.refl _ _) _)⟩
    · clear hq
      obtain ⟨N, hN⟩ : ∃ N, n % 256 = N := ⟨_, rfl⟩
      have hand : bits .and .u64 (n : Int) 255 = (N : Int) := by rw [← hN]; exact mask_at n 8 HN.out (by decide) _ (by decide)
      have hNM : N < 256 := by omega
      have hor : bits .or .u8 32 24 = 56 := by decide
      have O0 : Hid (Bo (w.alloc (.cells #[.int .u8 56] 5)) w.heap.size (.slice (some ⟨w.heap.size, 0, none⟩) 1 1) [UInt8.ofNat 56]) := Lib.hid (bo_lit1 w (by decide) rfl)
      have B0 := Lib.hid (bal (Below.refl w.heap.size w) (.cells #[.int .u8 56] 5))
      have HE0 : Hid ([UInt8.ofNat 56] ++ be N 1 = hby 1 24 N) := Lib.hid (by unfold hby; rw [hsz_24]; rfl)
      have HWY : Hid (WayH true N (hby 1 24 N)) := Lib.hid (way_head true (by decide) (by omega) (fun h => absurd h (by decide)) (fun _ => by rw [hsz_24]; omega))
      clear hNM hN
      go_wp2_with fail
      go_loopw [11, 13] (fun bv iv wr => ∃ (k : Nat) (j : Int) (l1 : List UInt8), k ≤ 1 ∧ j + 1 = (k : Int) ∧ iv = .int .i64 j ∧ l1.length + k = 2 ∧ Hid (Bo wr w.heap.size bv l1) ∧ Hid (l1 ++ be N k = hby 1 24 N) ∧ Hid (Below w.heap.size w wr)) (fun _ iv _ => (intOf iv + 1).toNat)
      case atStart => exact ⟨1, 0, [UInt8.ofNat 56], Nat.le_refl _, by decide, rfl, rfl, O0, HE0, B0⟩
      case round =>
        obtain ⟨k, j, l1, hk, hj, rfl, hlen, BR, HE, WR⟩ := hrel
        clear B0 O0 HE0
        rename World => wr
        cases k with
        | zero =>
          obtain rfl : j = -1 := by simp at hj; omega
          have e := HE.out
          rw [be_zero, List.append_nil] at e
          have BR2 := Lib.hid (e ▸ BR.out)
          have hneg : ¬ (0 : Int) ≤ -1 := by decide
          clear e HE BR
          go_wp2
          go_meet
          exact ⟨N, _, rfl, HWY, BR2, WR⟩
        | succ k =>
          obtain rfl : j = (k : Int) := by omega
          have hws := WR.out.size
          have HK9 := Lib.hid hk; have HL9 := Lib.hid hlen
          have hl20 : l1.length ≤ 40 := by omega
          obtain ⟨r, hr⟩ : ∃ r : Nat, 8 * k = r := ⟨_, rfl⟩
          have hr1 : 8 * (k : Int) = (r : Int) := by omega
          have hr2 : (r : Int).toNat = r := Int.toNat_natCast r
          have hr3 : (0 : Int) ≤ (r : Int) := by omega
          have hr4 : r ≤ 64 := by omega
          have HX : Hid (((N : Int) / 2 ^ r) % 256 = ((UInt8.ofNat (N / 256 ^ k)).toNat : Int)) := by
            show _ = _
            rw [be_step, hr]
            simp
          obtain ⟨X, hX⟩ : ∃ X : Int, (N : Int) / 2 ^ r % 256 = X := ⟨_, rfl⟩
          rw [hX] at HX
          have HE2 : Hid ((l1 ++ [UInt8.ofNat (N / 256 ^ k)]) ++ be N k = hby 1 24 N) := by
            show _ = _
            rw [← HE.out, be_succ, List.append_assoc]; rfl
          clear hr
          have WN := Lib.hid (bal WR.out (.cells #[.int .u8 X] 5))
          have hlow := Lib.hid (fun k (h : u11.ownBlock = some k) => (World.ownsRow.lt BR.out k h).1)
          clear HE hj hk hlen
          go_wp2_with (at_builtin; refine wpList_append_lies _ rfl (.tmp 101) (.tmp 108) 24 rfl w.heap.size 5 i0 (.int .u8 0) 1 1 und_u8s hi hz0 hz1 hz2 rfl (by decide) u11 l1.length _ rfl (World.ownsRow.alloc BR.out _) ⟨wr.heap.size, 0, none⟩ 1 1 [.int .u8 X] rfl rfl (cell_of_str0 _ _ _ _ (by simp)) (one_new1 _ _) (by decide) (by unfold maxLen; omega) (by omega) (by simp; omega) _ rfl ?_; intro g2 cap2 w3 hown hgrow hat hlt; have B1 := Lib.hid (Bo.snoc hown HX.out); have W1 := Lib.hid (WN.out.grown hgrow WN.out.size (fun k hk => hlow.out k hk)); clear hown hgrow hat hlt)
          go_roundw
          case rel => exact ⟨k, (k : Int) - 1, l1 ++ [UInt8.ofNat (N / 256 ^ k)], by have := HK9.out; omega, by omega, by go_num, by have := HL9.out; rw [List.length_append]; simp <;> omega, B1, HE2, W1⟩
          case measure => simp [intOf]
    · clear hq
      obtain ⟨N, hN⟩ : ∃ N, n % 65536 = N := ⟨_, rfl⟩
      have hand : bits .and .u64 (n : Int) 65535 = (N : Int) := by rw [← hN]; exact mask_at n 16 HN.out (by decide) _ (by decide)
      have hNM : N < 65536 := by omega
      have hor : bits .or .u8 32 25 = 57 := by decide
      have O0 : Hid (Bo (w.alloc (.cells #[.int .u8 57] 5)) w.heap.size (.slice (some ⟨w.heap.size, 0, none⟩) 1 1) [UInt8.ofNat 57]) := Lib.hid (bo_lit1 w (by decide) rfl)
      have B0 := Lib.hid (bal (Below.refl w.heap.size w) (.cells #[.int .u8 57] 5))
      have HE0 : Hid ([UInt8.ofNat 57] ++ be N 2 = hby 1 25 N) := Lib.hid (by unfold hby; rw [hsz_25]; rfl)
      have HWY : Hid (WayH true N (hby 1 25 N)) := Lib.hid (way_head true (by decide) (by omega) (fun h => absurd h (by decide)) (fun _ => by rw [hsz_25]; omega))
      clear hNM hN
      go_wp2_with fail
      go_loopw [11, 13] (fun bv iv wr => ∃ (k : Nat) (j : Int) (l1 : List UInt8), k ≤ 2 ∧ j + 1 = (k : Int) ∧ iv = .int .i64 j ∧ l1.length + k = 3 ∧ Hid (Bo wr w.heap.size bv l1) ∧ Hid (l1 ++ be N k = hby 1 25 N) ∧ Hid (Below w.heap.size w wr)) (fun _ iv _ => (intOf iv + 1).toNat)
      case atStart => exact ⟨2, 1, [UInt8.ofNat 57], Nat.le_refl _, by decide, rfl, rfl, O0, HE0, B0⟩
      case round =>
        obtain ⟨k, j, l1, hk, hj, rfl, hlen, BR, HE, WR⟩ := hrel
        clear B0 O0 HE0
        rename World => wr
        cases k with
        | zero =>
          obtain rfl : j = -1 := by simp at hj; omega
          have e := HE.out
          rw [be_zero, List.append_nil] at e
          have BR2 := Lib.hid (e ▸ BR.out)
          have hneg : ¬ (0 : Int) ≤ -1 := by decide
          clear e HE BR
          go_wp2
          go_meet
          exact ⟨N, _, rfl, HWY, BR2, WR⟩
        | succ k =>
          obtain rfl : j = (k : Int) := by omega
          have hws := WR.out.size
          have HK9 := Lib.hid hk; have HL9 := Lib.hid hlen
          have hl20 : l1.length ≤ 40 := by omega
          obtain ⟨r, hr⟩ : ∃ r : Nat, 8 * k = r := ⟨_, rfl⟩
          have hr1 : 8 * (k : Int) = (r : Int) := by omega
          have hr2 : (r : Int).toNat = r := Int.toNat_natCast r
          have hr3 : (0 : Int) ≤ (r : Int) := by omega
          have hr4 : r ≤ 64 := by omega
          have HX : Hid (((N : Int) / 2 ^ r) % 256 = ((UInt8.ofNat (N / 256 ^ k)).toNat : Int)) := by
            show _ = _
            rw [be_step, hr]
            simp
          obtain ⟨X, hX⟩ : ∃ X : Int, (N : Int) / 2 ^ r % 256 = X := ⟨_, rfl⟩
          rw [hX] at HX
          have HE2 : Hid ((l1 ++ [UInt8.ofNat (N / 256 ^ k)]) ++ be N k = hby 1 25 N) := by
            show _ = _
            rw [← HE.out, be_succ, List.append_assoc]; rfl
          clear hr
          have WN := Lib.hid (bal WR.out (.cells #[.int .u8 X] 5))
          have hlow := Lib.hid (fun k (h : u11.ownBlock = some k) => (World.ownsRow.lt BR.out k h).1)
          clear HE hj hk hlen
          go_wp2_with (at_builtin; refine wpList_append_lies _ rfl (.tmp 101) (.tmp 108) 24 rfl w.heap.size 5 i0 (.int .u8 0) 1 1 und_u8s hi hz0 hz1 hz2 rfl (by decide) u11 l1.length _ rfl (World.ownsRow.alloc BR.out _) ⟨wr.heap.size, 0, none⟩ 1 1 [.int .u8 X] rfl rfl (cell_of_str0 _ _ _ _ (by simp)) (one_new1 _ _) (by decide) (by unfold maxLen; omega) (by omega) (by simp; omega) _ rfl ?_; intro g2 cap2 w3 hown hgrow hat hlt; have B1 := Lib.hid (Bo.snoc hown HX.out); have W1 := Lib.hid (WN.out.grown hgrow WN.out.size (fun k hk => hlow.out k hk)); clear hown hgrow hat hlt)
          go_roundw
          case rel => exact ⟨k, (k : Int) - 1, l1 ++ [UInt8.ofNat (N / 256 ^ k)], by have := HK9.out; omega, by omega, by go_num, by have := HL9.out; rw [List.length_append]; simp <;> omega, B1, HE2, W1⟩
          case measure => simp [intOf]
    · clear hq
      obtain ⟨N, hN⟩ : ∃ N, n % 4294967296 = N := ⟨_, rfl⟩
      have hand : bits .and .u64 (n : Int) 4294967295 = (N : Int) := by rw [← hN]; exact mask_at n 32 HN.out (by decide) _ (by decide)
      have hNM : N < 4294967296 := by omega
      have hor : bits .or .u8 32 26 = 58 := by decide
      have O0 : Hid (Bo (w.alloc (.cells #[.int .u8 58] 5)) w.heap.size (.slice (some ⟨w.heap.size, 0, none⟩) 1 1) [UInt8.ofNat 58]) := Lib.hid (bo_lit1 w (by decide) rfl)
      have B0 := Lib.hid (bal (Below.refl w.heap.size w) (.cells #[.int .u8 58] 5))
      have HE0 : Hid ([UInt8.ofNat 58] ++ be N 4 = hby 1 26 N) := Lib.hid (by unfold hby; rw [hsz_26]; rfl)
      have HWY : Hid (WayH true N (hby 1 26 N)) := Lib.hid (way_head true (by decide) (by omega) (fun h => absurd h (by decide)) (fun _ => by rw [hsz_26]; omega))
      clear hNM hN
      go_wp2_with fail
      go_loopw [11, 13] (fun bv iv wr => ∃ (k : Nat) (j : Int) (l1 : List UInt8), k ≤ 4 ∧ j + 1 = (k : Int) ∧ iv = .int .i64 j ∧ l1.length + k = 5 ∧ Hid (Bo wr w.heap.size bv l1) ∧ Hid (l1 ++ be N k = hby 1 26 N) ∧ Hid (Below w.heap.size w wr)) (fun _ iv _ => (intOf iv + 1).toNat)
      case atStart => exact ⟨4, 3, [UInt8.ofNat 58], Nat.le_refl _, by decide, rfl, rfl, O0, HE0, B0⟩
      case round =>
        obtain ⟨k, j, l1, hk, hj, rfl, hlen, BR, HE, WR⟩ := hrel
        clear B0 O0 HE0
        rename World => wr
        cases k with
        | zero =>
          obtain rfl : j = -1 := by simp at hj; omega
          have e := HE.out
          rw [be_zero, List.append_nil] at e
          have BR2 := Lib.hid (e ▸ BR.out)
          have hneg : ¬ (0 : Int) ≤ -1 := by decide
          clear e HE BR
          go_wp2
          go_meet
          exact ⟨N, _, rfl, HWY, BR2, WR⟩
        | succ k =>
          obtain rfl : j = (k : Int) := by omega
          have hws := WR.out.size
          have HK9 := Lib.hid hk; have HL9 := Lib.hid hlen
          have hl20 : l1.length ≤ 40 := by omega
          obtain ⟨r, hr⟩ : ∃ r : Nat, 8 * k = r := ⟨_, rfl⟩
          have hr1 : 8 * (k : Int) = (r : Int) := by omega
          have hr2 : (r : Int).toNat = r := Int.toNat_natCast r
          have hr3 : (0 : Int) ≤ (r : Int) := by omega
          have hr4 : r ≤ 64 := by omega
          have HX : Hid (((N : Int) / 2 ^ r) % 256 = ((UInt8.ofNat (N / 256 ^ k)).toNat : Int)) := by
            show _ = _
            rw [be_step, hr]
            simp
          obtain ⟨X, hX⟩ : ∃ X : Int, (N : Int) / 2 ^ r % 256 = X := ⟨_, rfl⟩
          rw [hX] at HX
          have HE2 : Hid ((l1 ++ [UInt8.ofNat (N / 256 ^ k)]) ++ be N k = hby 1 26 N) := by
            show _ = _
            rw [← HE.out, be_succ, List.append_assoc]; rfl
          clear hr
          have WN := Lib.hid (bal WR.out (.cells #[.int .u8 X] 5))
          have hlow := Lib.hid (fun k (h : u11.ownBlock = some k) => (World.ownsRow.lt BR.out k h).1)
          clear HE hj hk hlen
          go_wp2_with (at_builtin; refine wpList_append_lies _ rfl (.tmp 101) (.tmp 108) 24 rfl w.heap.size 5 i0 (.int .u8 0) 1 1 und_u8s hi hz0 hz1 hz2 rfl (by decide) u11 l1.length _ rfl (World.ownsRow.alloc BR.out _) ⟨wr.heap.size, 0, none⟩ 1 1 [.int .u8 X] rfl rfl (cell_of_str0 _ _ _ _ (by simp)) (one_new1 _ _) (by decide) (by unfold maxLen; omega) (by omega) (by simp; omega) _ rfl ?_; intro g2 cap2 w3 hown hgrow hat hlt; have B1 := Lib.hid (Bo.snoc hown HX.out); have W1 := Lib.hid (WN.out.grown hgrow WN.out.size (fun k hk => hlow.out k hk)); clear hown hgrow hat hlt)
          go_roundw
          case rel => exact ⟨k, (k : Int) - 1, l1 ++ [UInt8.ofNat (N / 256 ^ k)], by have := HK9.out; omega, by omega, by go_num, by have := HL9.out; rw [List.length_append]; simp <;> omega, B1, HE2, W1⟩
          case measure => simp [intOf]
    · clear hq
      have hNM : n < 18446744073709551616 := HN.out
      have hor : bits .or .u8 32 27 = 59 := by decide
      have O0 : Hid (Bo (w.alloc (.cells #[.int .u8 59] 5)) w.heap.size (.slice (some ⟨w.heap.size, 0, none⟩) 1 1) [UInt8.ofNat 59]) := Lib.hid (bo_lit1 w (by decide) rfl)
      have B0 := Lib.hid (bal (Below.refl w.heap.size w) (.cells #[.int .u8 59] 5))
      have HE0 : Hid ([UInt8.ofNat 59] ++ be n 8 = hby 1 27 n) := Lib.hid (by unfold hby; rw [hsz_27]; rfl)
      have HWY : Hid (WayH true n (hby 1 27 n)) := Lib.hid (way_head true (by decide) (by omega) (fun h => absurd h (by decide)) (fun _ => by rw [hsz_27]; omega))
      clear hNM
      go_wp2_with fail
      go_loopw [11, 13] (fun bv iv wr => ∃ (k : Nat) (j : Int) (l1 : List UInt8), k ≤ 8 ∧ j + 1 = (k : Int) ∧ iv = .int .i64 j ∧ l1.length + k = 9 ∧ Hid (Bo wr w.heap.size bv l1) ∧ Hid (l1 ++ be n k = hby 1 27 n) ∧ Hid (Below w.heap.size w wr)) (fun _ iv _ => (intOf iv + 1).toNat)
      case atStart => exact ⟨8, 7, [UInt8.ofNat 59], Nat.le_refl _, by decide, rfl, rfl, O0, HE0, B0⟩
      case round =>
        obtain ⟨k, j, l1, hk, hj, rfl, hlen, BR, HE, WR⟩ := hrel
        clear B0 O0 HE0
        rename World => wr
        cases k with
        | zero =>
          obtain rfl : j = -1 := by simp at hj; omega
          have e := HE.out
          rw [be_zero, List.append_nil] at e
          have BR2 := Lib.hid (e ▸ BR.out)
          have hneg : ¬ (0 : Int) ≤ -1 := by decide
          clear e HE BR
          go_wp2
          go_meet
          exact ⟨n, _, rfl, HWY, BR2, WR⟩
        | succ k =>
          obtain rfl : j = (k : Int) := by omega
          have hws := WR.out.size
          have HK9 := Lib.hid hk; have HL9 := Lib.hid hlen
          have hl20 : l1.length ≤ 40 := by omega
          obtain ⟨r, hr⟩ : ∃ r : Nat, 8 * k = r := ⟨_, rfl⟩
          have hr1 : 8 * (k : Int) = (r : Int) := by omega
          have hr2 : (r : Int).toNat = r := Int.toNat_natCast r
          have hr3 : (0 : Int) ≤ (r : Int) := by omega
          have hr4 : r ≤ 64 := by omega
          have HX : Hid (((n : Int) / 2 ^ r) % 256 = ((UInt8.ofNat (n / 256 ^ k)).toNat : Int)) := by
            show _ = _
            rw [be_step, hr]
            simp
          obtain ⟨X, hX⟩ : ∃ X : Int, (n : Int) / 2 ^ r % 256 = X := ⟨_, rfl⟩
          rw [hX] at HX
          have HE2 : Hid ((l1 ++ [UInt8.ofNat (n / 256 ^ k)]) ++ be n k = hby 1 27 n) := by
            show _ = _
            rw [← HE.out, be_succ, List.append_assoc]; rfl
          clear hr
          have WN := Lib.hid (bal WR.out (.cells #[.int .u8 X] 5))
          have hlow := Lib.hid (fun k (h : u11.ownBlock = some k) => (World.ownsRow.lt BR.out k h).1)
          clear HE hj hk hlen
          go_wp2_with (at_builtin; refine wpList_append_lies _ rfl (.tmp 101) (.tmp 108) 24 rfl w.heap.size 5 i0 (.int .u8 0) 1 1 und_u8s hi hz0 hz1 hz2 rfl (by decide) u11 l1.length _ rfl (World.ownsRow.alloc BR.out _) ⟨wr.heap.size, 0, none⟩ 1 1 [.int .u8 X] rfl rfl (cell_of_str0 _ _ _ _ (by simp)) (one_new1 _ _) (by decide) (by unfold maxLen; omega) (by omega) (by simp; omega) _ rfl ?_; intro g2 cap2 w3 hown hgrow hat hlt; have B1 := Lib.hid (Bo.snoc hown HX.out); have W1 := Lib.hid (WN.out.grown hgrow WN.out.size (fun k hk => hlow.out k hk)); clear hown hgrow hat hlt)
          go_roundw
          case rel => exact ⟨k, (k : Int) - 1, l1 ++ [UInt8.ofNat (n / 256 ^ k)], by have := HK9.out; omega, by omega, by go_num, by have := HL9.out; rw [List.length_append]; simp <;> omega, B1, HE2, W1⟩
          case measure => simp [intOf]
    · clear hq
      have hK8 := H8.out; have hK20 := H20.out
      have hK8s : wrap64 (8 + ((K : Int) - 8)) = (K : Int) := by unfold wrap64; omega
      go_upto_region 8 with (fail)
      rw [HKE.out, hK8s]
      clear hK8s
      have bK : (K : Int) < 20 := by omega
      have bK0 : (8 : Int) ≤ (K : Int) := by omega
      have hor1 : bits .or .u8 194 1 = 195 := by decide
      obtain ⟨Z, hZ⟩ : ∃ Z : Int, bits .or .u8 64 (K : Int) = Z := ⟨_, rfl⟩
      have O0 : Hid (Bo (w.alloc (.cells #[.int .u8 195, .int .u8 Z] 5)) w.heap.size (.slice (some ⟨w.heap.size, 0, none⟩) 2 2) [UInt8.ofNat 195, UInt8.ofNat (64 + K)]) := Lib.hid (bo_lit2 w (by decide) (by omega) rfl (by rw [← hZ, or_64 (by omega)]))
      have B0 := Lib.hid (bal (Below.refl w.heap.size w) (.cells #[.int .u8 195, .int .u8 Z] 5))
      have HE0 : Hid ([UInt8.ofNat 195, UInt8.ofNat (64 + K)] ++ padZ n K = hby 6 3 3 ++ (hby 2 (padZ n K).length (padZ n K).length ++ padZ n K)) := Lib.hid (by rw [pad_len]; unfold hby; rw [hsz_low (by decide), hsz_low (show K < 24 by omega), be_zero, be_zero]; rfl)
      have HWY : Hid (WayH true n (hby 6 3 3 ++ (hby 2 (padZ n K).length (padZ n K).length ++ padZ n K))) := Lib.hid (way_big true HN.out (by rw [pad_len]; exact hK8) (by rw [pad_len]; omega) (nb_pad HN.out hK8))
      clear hK8 hK20
      go_wp2_with fail
      go_loopw [11, 15] (fun bv iv wr => ∃ (k : Nat) (j : Int) (l1 : List UInt8), k ≤ K ∧ j + 1 = (k : Int) ∧ iv = .int .i64 j ∧ l1.length + k = K + 2 ∧ Hid (Bo wr w.heap.size bv l1) ∧ Hid (l1 ++ padZ n k = hby 6 3 3 ++ (hby 2 (padZ n K).length (padZ n K).length ++ padZ n K)) ∧ Hid (Below w.heap.size w wr)) (fun _ iv _ => (intOf iv + 1).toNat)
      case atStart => exact ⟨K, (K : Int) - 1, [UInt8.ofNat 195, UInt8.ofNat (64 + K)], Nat.le_refl _, by omega, by go_num, by simp <;> omega, O0, HE0, B0⟩
      case round =>
        obtain ⟨k, j, l1, hk, hj, rfl, hlen, BR, HE, WR⟩ := hrel
        clear B0 O0 HE0
        rename World => wr
        cases k with
        | zero =>
          obtain rfl : j = -1 := by simp at hj; omega
          have e := HE.out
          rw [show padZ n 0 = [] from rfl, List.append_nil] at e
          have BR2 := Lib.hid (e ▸ BR.out)
          have hneg : ¬ (0 : Int) ≤ -1 := by decide
          clear e HE BR
          go_wp2
          go_meet
          exact ⟨n, _, rfl, HWY, BR2, WR⟩
        | succ k =>
          obtain rfl : j = (k : Int) := by omega
          have hws := WR.out.size
          have HK9 := Lib.hid hk; have HL9 := Lib.hid hlen
          have hl20 : l1.length ≤ 40 := by omega
          by_cases hk8 : k < 8
          · obtain ⟨r, hr⟩ : ∃ r : Nat, 8 * k = r := ⟨_, rfl⟩
            have hr1 : 8 * (k : Int) = (r : Int) := by omega
            have hr2 : (r : Int).toNat = r := Int.toNat_natCast r
            have hr3 : (0 : Int) ≤ (r : Int) := by omega
            have hr4 : r ≤ 64 := by omega
            have HX : Hid (((n : Int) / 2 ^ r) % 256 = ((UInt8.ofNat (n / 256 ^ k)).toNat : Int)) := by
              show _ = _
              rw [be_step, hr]
              simp
            obtain ⟨X, hX⟩ : ∃ X : Int, (n : Int) / 2 ^ r % 256 = X := ⟨_, rfl⟩
            rw [hX] at HX
            have hi8 : (k : Int) < 8 := by omega
            have HE2 : Hid ((l1 ++ [UInt8.ofNat (n / 256 ^ k)]) ++ padZ n k = hby 6 3 3 ++ (hby 2 (padZ n K).length (padZ n K).length ++ padZ n K)) := by
              show _ = _
              rw [← HE.out, pad_low n hk8, List.append_assoc]; rfl
            clear hr
            have WN := Lib.hid (bal WR.out (.cells #[.int .u8 X] 5))
            have hlow := Lib.hid (fun k (h : u11.ownBlock = some k) => (World.ownsRow.lt BR.out k h).1)
            clear HE hj hk hlen
            go_wp2_with (at_builtin; refine wpList_append_lies _ rfl (.tmp 58) (.tmp 60) 24 rfl w.heap.size 5 i0 (.int .u8 0) 1 1 und_u8s hi hz0 hz1 hz2 rfl (by decide) u11 l1.length _ rfl (World.ownsRow.alloc BR.out _) ⟨wr.heap.size, 0, none⟩ 1 1 [.int .u8 X] rfl rfl (cell_of_str0 _ _ _ _ (by simp)) (one_new1 _ _) (by decide) (by unfold maxLen; omega) (by omega) (by simp; omega) _ rfl ?_; intro g2 cap2 w3 hown hgrow hat hlt; have B1 := Lib.hid (Bo.snoc hown HX.out); have W1 := Lib.hid (WN.out.grown hgrow WN.out.size (fun k hk => hlow.out k hk)); clear hown hgrow hat hlt)
            go_roundw
            case rel => exact ⟨k, (k : Int) - 1, l1 ++ [UInt8.ofNat (n / 256 ^ k)], by have := HK9.out; omega, by omega, by go_num, by have := HL9.out; rw [List.length_append]; simp <;> omega, B1, HE2, W1⟩
            case measure => simp [intOf]
          · have hi8 : ¬ (k : Int) < 8 := by omega
            have bk : (k : Int) < 40 := by have := H20.out; omega
            have HE2 : Hid ((l1 ++ [(0 : UInt8)]) ++ padZ n k = hby 6 3 3 ++ (hby 2 (padZ n K).length (padZ n K).length ++ padZ n K)) := by
              show _ = _
              rw [← HE.out, pad_high n (by omega), List.append_assoc]; rfl
            have WN := Lib.hid (bal WR.out (.cells #[.int .u8 0] 5))
            have hlow := Lib.hid (fun k (h : u11.ownBlock = some k) => (World.ownsRow.lt BR.out k h).1)
            clear HE hj hk hlen
            go_wp2_with (at_builtin; refine wpList_append_lies _ rfl (.tmp 58) (.tmp 60) 24 rfl w.heap.size 5 i0 (.int .u8 0) 1 1 und_u8s hi hz0 hz1 hz2 rfl (by decide) u11 l1.length _ rfl (World.ownsRow.alloc BR.out _) ⟨wr.heap.size, 0, none⟩ 1 1 [.int .u8 0] rfl rfl (cell_of_str0 _ _ _ _ (by simp)) (one_new1 _ _) (by decide) (by unfold maxLen; omega) (by omega) (by simp; omega) _ rfl ?_; intro g2 cap2 w3 hown hgrow hat hlt; have B1 := Lib.hid (Bo.snoc (c := (0 : UInt8)) hown rfl); have W1 := Lib.hid (WN.out.grown hgrow WN.out.size (fun k hk => hlow.out k hk)); clear hown hgrow hat hlt)
            go_roundw
            case rel => exact ⟨k, (k : Int) - 1, l1 ++ [(0 : UInt8)], by have := HK9.out; omega, by omega, by go_num, by have := HL9.out; rw [List.length_append]; simp <;> omega, B1, HE2, W1⟩
            case measure => simp [intOf]
  case rest =>
    obtain ⟨N, l, rfl, WY, BO, BW⟩ := hcut
    obtain ⟨L, hL⟩ : ∃ L, l.length = L := ⟨_, rfl⟩
    obtain ⟨gg, cap, hu, _⟩ := BO.out.some WY.out.2.2.1
    rw [hL] at hu
    have HBY := Lib.hid (bo_bytes (hu ▸ BO.out))
    subst hu
    have hN := WY.out.1
    obtain ⟨x, hx⟩ : ∃ x, headI true N = x := ⟨_, rfl⟩
    have hx2 : x < 2 ^ 256 := by rw [← hx]; exact headI_lt true hN
    have hML : ((intB true x).length : Int) ≤ (L : Int) := by have h0 := WY.out.2.1; rw [← intB_head true N hN, hx, hL] at h0; omega
    have KD : Hid (∀ W cap, BytesAt W gg 0 l → Calls Tryz.prog 4 #[.slice (some ⟨gg, 0, none⟩) L cap] W fun e w' => e = .returned (.tuple #[V10 3 true (lb 0 x) (lb 1 x) (lb 2 x) (lb 3 x) 0 ⟨#[]⟩ none 0 0 none 0 0, .int .i64 0]) ∧ Below W.heap.size W w') := Lib.hid (fun W cap hb => by have := dec_way WY.out gg cap L hL W hb; rw [hx] at this; exact this)
    have KE0 := fun W (hT : Tb W) => enc_head true hN W hT
    have KR0 := fun W (hT : Tb W) => renc_int true N hN W hT
    rw [hx] at KE0 KR0
    obtain ⟨B, hB⟩ : ∃ B, intB true x = B := ⟨_, rfl⟩
    rw [hB] at KE0 KR0 hML
    obtain ⟨M, hM⟩ : ∃ M, B.length = M := ⟨_, rfl⟩
    rw [hM] at KE0 hML
    have KE : Hid (∀ W, Tb W → Calls Tryz.prog 8 #[V10 3 true (lb 0 x) (lb 1 x) (lb 2 x) (lb 3 x) 0 ⟨#[]⟩ none 0 0 none 0 0] W fun e w' => ∃ gg cap, e = .returned (.tuple #[.slice (some ⟨gg, 0, none⟩) M cap, .int .i64 0]) ∧ BytesAt w' gg 0 B ∧ Below W.heap.size W w') := Lib.hid KE0
    have KR : Hid (∀ W, Tb W → Calls Tryz.prog 9 #[V10 3 true (lb 0 x) (lb 1 x) (lb 2 x) (lb 3 x) 0 ⟨#[]⟩ none 0 0 none 0 0] W fun e w' => e = .returned (.tuple #[.string (str B), .int .i64 0]) ∧ Below W.heap.size W w') := Lib.hid KR0
    have q1 := eq5_own8 true x hx2
    have HM := Lib.hid hM; have HNN := Lib.hid hN; have HXX := Lib.hid hx; have HX2 := Lib.hid hx2
    clear KE0 KR0 hB hM hN hx hL WY BO hx2
    go_wp2_with fail
    ((with_reducible refine (KD.out _ _ HBY.out).mono ?_); rintro e w1 ⟨rfl, hb⟩)
    have B1 := Lib.hid (bal (btr BW.out hb) (.cells #[.int .i64 3, .bool true, .int .u64 (lb 0 x), .int .u64 (lb 1 x), .int .u64 (lb 2 x), .int .u64 (lb 3 x), .int .u64 0, .string ⟨#[]⟩, .slice none 0 0, .slice none 0 0] 32))
    have V1 := Lib.hid (Row10.new w1 (.int .i64 3) (.bool true) (.int .u64 (lb 0 x)) (.int .u64 (lb 1 x)) (.int .u64 (lb 2 x)) (.int .u64 (lb 3 x)) (.int .u64 0) (.string ⟨#[]⟩) (.slice none 0 0) (.slice none 0 0))
    clear hb
    have B2 := Lib.hid (bal B1.out (.cells #[.bool false, .int .u64 N, .int .u64 0, .int .u64 0, .int .u64 0] 28))
    have V2 := Lib.hid (Row10.alloc V1.out (.cells #[.bool false, .int .u64 N, .int .u64 0, .int .u64 0, .int .u64 0] 28))
    have Q2 := Row5.new (w1.alloc (.cells #[.int .i64 3, .bool true, .int .u64 (lb 0 x), .int .u64 (lb 1 x), .int .u64 (lb 2 x), .int .u64 (lb 3 x), .int .u64 0, .string ⟨#[]⟩, .slice none 0 0, .slice none 0 0] 32)) (.bool false) (.int .u64 N) (.int .u64 0) (.int .u64 0) (.int .u64 0)
    rw [size_alloc8] at Q2
    have HS1 : Hid (w.heap.size ≤ w1.heap.size + 1) := Lib.hid (by have h2 := B1.out.size; simp at h2; omega)
    clear V1 B1
    have KS : Hid (∀ W, Calls Tryz.prog 6 #[.int .u64 N] W fun e w' => ∃ s', e = .returned s' ∧ DR w' s' N ∧ Below W.heap.size W w') := Lib.hid (fun W => rsmall N HNN.out W)
    have L1 : Hid ((digs N).length ≤ 1000) := Lib.hid (digs_64 (Nat.lt_of_lt_of_le HNN.out (by decide)))
    have L2 : Hid ((digs 1).length ≤ 1000) := Lib.hid (digs_64 (by decide))
    go_wp2_with fail
    ((with_reducible refine (KS.out _).mono ?_); rintro e w2 ⟨s2, rfl, hr, hb⟩)
    have B3 := Lib.hid (bal (btr B2.out hb) (.cells #[.int .u32 1] 40))
    have V3 := Lib.hid (Row10.alloc (Row10.keep hb V2.out) (.cells #[.int .u32 1] 40))
    have Q3 := Row5.alloc (Row5.keep hb Q2) (.cells #[.int .u32 1] 40)
    have D3 := Lib.hid (DR.keep (bal (Below.refl _ _) (.cells #[.int .u32 1] 40)) hr)
    have O3 := Lib.hid (ten_new w2 1 (by decide) (by decide) 1 rfl)
    have KA : Hid (Calls Tryz.prog 5 #[s2, .slice (some ⟨w2.heap.size, 0, none⟩) 1 1] (w2.alloc (.cells #[.int .u32 1] 40)) fun e w' => ∃ s', e = .returned s' ∧ DR w' s' x ∧ Below (w2.alloc (.cells #[.int .u32 1] 40)).heap.size (w2.alloc (.cells #[.int .u32 1] 40)) w') := Lib.hid (by have := radd D3.out O3.out L1.out L2.out; rw [show N + 1 = x from HXX.out] at this; exact this)
    clear hb hr V2 B2 Q2 D3 O3
    go_wp2_with fail
    ((with_reducible refine (KA.out).mono ?_); rintro e w3 ⟨s3, rfl, hr, hb⟩)
    have B4 := Lib.hid (btr B3.out hb); have V4 := Lib.hid (Row10.keep hb V3.out); have Q4 := Row5.keep hb Q3; have D4 := Lib.hid hr
    clear hb hr V3 B3 Q3 KA
    go_wp2_with fail
    ((with_reducible refine (rnat_yes D4.out HX2.out).mono ?_); rintro e w4 ⟨rfl, hb⟩)
    have B5' := bal (btr B4.out hb) (.cells #[.int .u64 (lb 0 x), .int .u64 (lb 1 x), .int .u64 (lb 2 x), .int .u64 (lb 3 x)] 26)
    have V5' := Row10.alloc (Row10.keep hb V4.out) (.cells #[.int .u64 (lb 0 x), .int .u64 (lb 1 x), .int .u64 (lb 2 x), .int .u64 (lb 3 x)] 26)
    have Q5 := Row5.alloc (Row5.keep hb Q4) (.cells #[.int .u64 (lb 0 x), .int .u64 (lb 1 x), .int .u64 (lb 2 x), .int .u64 (lb 3 x)] 26)
    have N5 := Row4.new w4 (.int .u64 (lb 0 x)) (.int .u64 (lb 1 x)) (.int .u64 (lb 2 x)) (.int .u64 (lb 3 x))
    have hq5 : w1.heap.size + 1 < w4.heap.size := (Row5.keep hb Q4).lt
    clear hb V4 B4 Q4 D4
    go_upto_region 35 with (fail)
    go_name_world w5 hw5
    rw [hw5] at B5' V5' Q5 N5
    have B5 := Lib.hid B5'; have V5 := Lib.hid V5'
    clear hw5 B5' V5'
    obtain ⟨n0, n1, n2, n3⟩ := N5.four
    obtain ⟨r0, r1, r2, r3, r4⟩ := Q5.parts
    obtain ⟨f0, f1, f2, f3, f4⟩ := Q5.free
    have hs1 : Hid (w.heap.size ≤ w1.heap.size + 1) := HS1
    go_upto_region 36 with (fail)
    go_name_world w6 hw6
    have Q6 := Row5.set5 Q5 (.bool true) (.int .u64 (lb 0 x)) (.int .u64 (lb 1 x)) (.int .u64 (lb 2 x)) (.int .u64 (lb 3 x))
    have V6 := ((((V5.out.set (c := w1.heap.size + 1) (by omega) (i := 0) (.bool true)).set (c := w1.heap.size + 1) (by omega) (i := 1) (.int .u64 (lb 0 x))).set (c := w1.heap.size + 1) (by omega) (i := 2) (.int .u64 (lb 1 x))).set (c := w1.heap.size + 1) (by omega) (i := 3) (.int .u64 (lb 2 x))).set (c := w1.heap.size + 1) (by omega) (i := 4) (.int .u64 (lb 3 x))
    have B6 := bsc5 B5.out hs1.out (.bool true) (.int .u64 (lb 0 x)) (.int .u64 (lb 1 x)) (.int .u64 (lb 2 x)) (.int .u64 (lb 3 x))
    rw [hw6] at Q6 V6 B6
    clear hw6 n0 n1 n2 n3 r0 r1 r2 r3 r4 f0 f1 f2 f3 f4 V5 B5 Q5 N5
    have V7 := Lib.hid V6; have B7 := Lib.hid B6; have Q7 := Q6
    clear V6 B6 Q6
    obtain ⟨p0, p1, p2, p3, p4, p5, p6, p7, p8, p9⟩ := V7.out.parts
    go_wp2_with fail
    ((with_reducible refine (KE.out _ (tb_on HT.out B7.out)).mono ?_); rintro e w8 ⟨g8, c8, rfl, hby, hb⟩)
    have B8 := Lib.hid (btr B7.out hb); have V8 := Lib.hid (Row10.keep hb V7.out); have Q8 := Row5.keep hb Q7; have Y8 := Lib.hid hby
    clear hb hby p0 p1 p2 p3 p4 p5 p6 p7 p8 p9 V7 B7 Q7
    obtain ⟨r0, r1, r2, r3, r4⟩ := Q8.parts
    go_wp2_with fail
    ((with_reducible refine (KR.out _ (tb_on HT.out B8.out)).mono ?_); rintro e w9 ⟨rfl, hb⟩)
    have B9 := Lib.hid (btr B8.out hb); have V9 := Lib.hid (Row10.keep hb V8.out); have Q9 := Row5.keep hb Q8; have Y9 := Lib.hid (Y8.out.keep hb)
    clear hb r0 r1 r2 r3 r4 V8 B8 Q8 Y8
    go_wp2_with fail
    ((with_reducible refine (told8_true _ (tb_on HT.out B9.out)).mono ?_); rintro e wa ⟨rfl, hb⟩)
    have Ba := Lib.hid (btr B9.out hb); have Va := Lib.hid (Row10.keep hb V9.out); have Qa := Row5.keep hb Q9; have Ya := Y9.out.keep hb
    clear hb V9 B9 Q9 Y9
    have hcv := conv_bytes wa g8 0 c8 B Ya M HM.out
    obtain ⟨p0, p1, p2, p3, p4, p5, p6, p7, p8, p9⟩ := Va.out.parts
    obtain ⟨r0, r1, r2, r3, r4⟩ := Qa.parts
    obtain ⟨S, hS⟩ : ∃ S, str B = S := ⟨_, rfl⟩
    rw [hS] at hcv ⊢
    have hs2 : (S.toList == S.toList) = true := beq_self_eq_true S.toList
    clear hS Ya
    go_wp2
    go_ret
    exact ⟨rfl, Ba.out⟩
theorem heads_any (v : Int) (h0 : 0 ≤ v) (h1 : v ≤ 18446744073709551615) (g : Bool) (width zeros : Int) (w : World) (hT : Tb w) :
    Calls Tryz.prog 3 #[.int .u64 v, .bool g, .int .i64 width, .int .i64 zeros] w fun e w' => e = .returned (.bool true) ∧ Below w.heap.size w w' := by
  obtain ⟨n, rfl⟩ := Int.eq_ofNat_of_zero_le h0
  obtain ⟨q, hq, hqe⟩ := mod_at width 6 (by decide) (by decide)
  obtain ⟨k, hk, hke⟩ := mod_at zeros 12 (by decide) (by decide)
  have hKe : wrap64 ((IntKind.u64.wrap zeros).tmod 12) = (((k + 8 : Nat) : Int) - 8) := by rw [show (((k + 8 : Nat) : Int) - 8) = (k : Int) by omega]; exact hke
  cases g with
  | false => exact heads_f n (by omega) width zeros (q : Int) ⟨by omega, by omega⟩ hqe (k + 8) (by omega) (by omega) hKe w hT
  | true => exact heads_t n (by omega) width zeros (q : Int) ⟨by omega, by omega⟩ hqe (k + 8) (by omega) (by omega) hKe w hT
end Go.Proofs.YtgcfhoglcdgekaaGreatDoor
