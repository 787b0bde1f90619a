/-
  The reference's Mul: the contract, for all numbers of at most 1000 digits of 32 bits.
-/
import Derived.Test.YtfbkifcgdkgllaaDoorRefMulMath
import Derived.Lib.QuietBelow
import Derived.BigQuiet
namespace Go.Proofs.YtfbkifcgdkgllaaDoor
open Go.RowKit Go.Shelf
open Go.Sort (grow)

theorem calls_below0 {f : FuncId} {args : Array Value} {w : World} {r : Ending} (h : Calls Tryd.prog f args w fun e w' => e = r ∧ w' = w) : Calls Tryd.prog f args w fun e w' => e = r ∧ Below w.heap.size w w' :=
  h.mono fun _ _ ⟨he, hw⟩ => ⟨he, by rw [hw]; exact Below.refl _ _⟩
set_option maxHeartbeats 2000000 in
set_option maxRecDepth 100000 in
theorem rmul_core (ba oa : Nat) (B : Option Addr) (n ca m cb x y N : Nat) (hn : n = (digs x).length) (hm : m = (digs y).length) (hn0 : 0 < n) (hn1 : n ≤ 1000) (hm1 : m ≤ 1000) (hN : N = n + m + 1) (w : World)
    (hba : ba < w.heap.size) (hx : Cs w ba oa (digs x)) (hy : DR w (.slice B m cb) y) :
    Calls Tryd.prog 71 #[.slice (some ⟨ba, oa, none⟩) n ca, .slice B m cb] w fun e w' => ∃ s', e = .returned s' ∧ DR w' s' (x * y) ∧ Below w.heap.size w w' := by
  have hmk := make_u32 N (by omega) ((n : Int) + (m : Int) + 1) (by omega)
  obtain ⟨M, hM⟩ : ∃ M, M = (U32s (List.replicate N 0)).toArray := ⟨_, rfl⟩
  rw [← hM] at hmk
  have HMM := Lib.hid hM; clear hM
  have HN := Lib.hid hn; have HM := Lib.hid hm; have HX := Lib.hid hx; have HY := Lib.hid hy; have HNN := Lib.hid hN; clear hn hm hx hy hN
  go_enter Tryd.func71, Tryd.ntmps71
  go_wp2
  go_loopw [6] (fun i wr => ∃ (k : Nat) (O : List Nat), i = .int .i64 (k : Int) ∧ k ≤ n ∧ Hid (MulOut x y N k O) ∧ Hid (Dk wr w.heap.size O) ∧ Below w.heap.size w wr)
    (fun i _ => n - (intOf i).toNat)
  case atStart => exact ⟨0, _, rfl, by omega, MulOut.zero x y N, (by show Dk _ _ _; rw [HMM.out]; exact Dk.new w _), bal (Below.refl _ _) _⟩
  case round =>
    obtain ⟨k, O, rfl, hk, HI, HD, hbw⟩ := hrel
    obtain ⟨wo, rfl⟩ : ∃ wo : World, wo = wr := ⟨_, rfl⟩
    by_cases h1 : k < n
    · obtain ⟨a, ha⟩ : ∃ a, a = x / 2 ^ (32 * k) % 4294967296 := ⟨_, rfl⟩
      have ha1 : a < 4294967296 := by omega
      have HA := Lib.hid ha; clear ha
      go_wp2
      go_loopw [7, 8] (fun c j wi => ∃ (q cc : Nat) (P : List Nat), c = .int .u64 (cc : Int) ∧ j = .int .i64 (q : Int) ∧ q ≤ m + 1 ∧ Hid (MulIn x y N k q cc P) ∧ Hid (q = m + 1 → cc = 0) ∧ Hid (Dk wi w.heap.size P) ∧ Below w.heap.size w wi)
        (fun _ j _ => m + 1 - (intOf j).toNat)
      case atStart => exact ⟨0, 0, O, rfl, rfl, by omega, HI.out.into, fun h => by omega, HD, hbw⟩
      case round =>
        obtain ⟨q, cc, P, rfl, rfl, hq, HJ, HC, HE, hbi⟩ := hrel
        obtain ⟨wv, rfl⟩ : ∃ wv : World, wv = wr := ⟨_, rfl⟩
        have hc1 : cc < 4294967296 := HJ.out.2.2.1
        by_cases hgo : q < m ∨ 0 < cc
        · have hqm : q ≤ m := by
            apply Decidable.byContradiction
            intro h
            have := HC.out (by omega)
            omega
          obtain ⟨p, hp⟩ : ∃ p, p = k + q := ⟨_, rfl⟩
          have hpN : p < N := by have := HNN.out; omega
          obtain ⟨b, hb⟩ : ∃ b, b = y / 2 ^ (32 * q) % 4294967296 := ⟨_, rfl⟩
          have hb1 : b < 4294967296 := by omega
          have hl : P.length = N := HJ.out.1
          obtain ⟨o, ho⟩ : ∃ o, o = P.getD (k + q) 0 := ⟨_, rfl⟩
          have ho1 : o < 4294967296 := by rw [ho]; exact HJ.out.2.1.get _
          obtain ⟨sb, ab⟩ := sum_bound hc1 ho1 ha1 hb1
          obtain ⟨s, hs⟩ : ∃ s, s = cc + o + a * b := ⟨_, rfl⟩
          obtain ⟨pr, hpr⟩ : ∃ pr, pr = a * b := ⟨_, rfl⟩
          have hNX := HJ.out.next (by omega) ho HA.out hb hs (by rw [hs]; exact sb)
          have hlast : q = m → cc + o < 4294967296 := by
            intro e
            rw [ho]
            exact HJ.out.last (by have := HM.out; omega)
          have hb0 : q = m → b = 0 := by
            intro e
            have := digs_len.1 (show (digs y).length ≤ q by have := HM.out; omega)
            rw [hb, Nat.div_eq_of_lt this]
          have hC' : q + 1 = m + 1 → s / 4294967296 = 0 := by
            intro e
            have e1 := hlast (by omega)
            have e2 := hb0 (by omega)
            rw [hs, e2, Nat.mul_zero]; omega
          have q1 := HE.out.cell (i := p) (by omega)
          rw [hp, ← ho, ← hp] at q1
          have q2 : wv.cell? ⟨ba, oa + k, none⟩ = some (.int .u32 (a : Int)) := by
            rw [hbi.cell (p := ⟨ba, oa + k, none⟩) hba, HX.out k (by have := HN.out; omega), digs_get, ← HA.out]
          have q3 : ∀ W, Below wv.heap.size wv W → Calls Tryd.prog 108 #[.slice B m cb, .int .i64 (q : Int)] W fun e w' => e = .returned (.int .u64 (b : Int)) ∧ Below W.heap.size W w' := fun W hW => by
            have h := at_dr ((HY.out.keep hbi).keep hW) (q : Int) (by omega)
            rw [Int.toNat_natCast, ← hb] at h
            exact calls_below0 h
          have f2 : Hid (∀ W, Below wv.heap.size wv W → W.cell? ⟨w.heap.size, p, none⟩ = some (.int .u32 (o : Int)) ∧ W.frozen? ⟨w.heap.size, p, none⟩ = false ∧ Dk W w.heap.size P) := fun W hW => by
            have h := HE.out.keep hW
            exact ⟨by rw [h.cell (by omega), hp, ← ho], h.free p, h⟩
          have w0 : IntKind.i64.wrap ((k : Int) + (q : Int)) = (p : Int) := by rw [Go.IntWalk.i64_in _ (by omega)]; omega
          have w1 : IntKind.u64.wrap (o : Int) = (o : Int) := by rw [IntKind.wrap_u64]; omega
          have w2 : IntKind.u64.wrap (a : Int) = (a : Int) := by rw [IntKind.wrap_u64]; omega
          have w3 : IntKind.u64.wrap ((cc : Int) + (o : Int)) = (cc : Int) + (o : Int) := by rw [IntKind.wrap_u64]; omega
          have w4 : IntKind.u64.wrap ((a : Int) * (b : Int)) = (pr : Int) := by rw [IntKind.wrap_u64, ← Int.natCast_mul, ← hpr]; omega
          have w5 : IntKind.u64.wrap ((cc : Int) + (o : Int) + (pr : Int)) = (s : Int) := by rw [IntKind.wrap_u64]; omega
          have b0 : (0 : Int) ≤ (p : Int) := by omega
          have b1 : (p : Int) < (N : Int) := by omega
          have b2 : (0 : Int) ≤ (k : Int) := by omega
          have b3 : (k : Int) < (n : Int) := by omega
          have t0 : ((p : Int)).toNat = p := Int.toNat_natCast p
          have t1 : ((k : Int)).toNat = k := Int.toNat_natCast k
          have hs2 : s < 18446744073709551616 := by omega
          have hsp : (k : Int) + (q : Int) = (p : Int) := by omega
          have HSP := Lib.hid hsp
          rw [← hp] at hNX
          have HSET := Lib.hid hNX
          have HCC := Lib.hid hC'
          clear hNX hC' hlast hb0 hs hpr ho hb hp HA sb ab hsp
          have hcase : (q < m) ∨ (¬ q < m ∧ 0 < cc) := by omega
          clear hgo
          rcases hcase with h2 | ⟨h2, h3⟩
          all_goals
            go_upto_region 9 with (fail)
            have g1 := cell_regrown q1
            have g2 := cell_regrown q2
            have cq0 := fun (d : Nat) (os : Array Obj) => Calls.regrown_of (w := wv) (d := d) (os := os) (q3 _ (below_regrown wv d os))
            refine wp_region_quiet_below (by kernel_rfl) (by kernel_rfl) ?_
            repeat (first | go_big_quiet_step ((first | (with_reducible exact cq0 _ _))) | quiet_step (first | (with_reducible exact cq0 _ _)))
            refine wpQuiet_nil ?_
            intro _ hw'
            obtain ⟨⟨dq, osq⟩, hw''⟩ := hw'
            subst hw''
            clear g1 g2 cq0
            have hb := below_regrown wv dq osq
            generalize grow (redrawn wv dq) osq = wq at *
            obtain ⟨r1, r2, r3⟩ := f2.out _ hb
            have hbq : Below w.heap.size w wq := btr hbi hb
            have HR := Lib.hid r3
            clear r3 hb f2 q1 q2 w0 w1 w2 w3 w4 w5
            have hsp := HSP.out
            go_wp2
            go_roundw
            case rel => exact ⟨q + 1, s / 4294967296, P.set p (s % 4294967296), by (congr 1), by go_num, by omega, HSET.out, HCC.out, HR.out.set p _ _ (by omega), bsc hbq (Nat.le_refl _) _⟩
            case measure => simp [intOf]; omega
        · have hq2 : ¬ q < m := by omega
          obtain rfl : cc = 0 := by omega
          have HO : Hid (MulOut x y N (k + 1) P) := HJ.out.stop (by have := HM.out; omega)
          clear hgo
          go_wp2
          go_roundw
          case rel => exact ⟨k + 1, P, by go_num, by omega, HO, HE, hbi⟩
          case measure => simp [intOf]; omega
    · have hv := HI.out.stop (by rw [← HN.out]; omega)
      have hl : O.length = N := HI.out.1
      have hrd := HD.out.rd (by rw [hl]; have := HNN.out; omega)
      rw [hl] at hrd
      have ht := trim_dr hrd HI.out.2.1
      rw [hv] at ht
      have HT := Lib.hid ht
      clear ht hv hl hrd
      go_wp2_with fail
      refine HT.out.mono ?_
      rintro e w1 ⟨s', rfl, hr, hw⟩
      rw [hw]; clear hw w1
      go_wp2
      go_ret
      exact ⟨s', rfl, hr, hbw⟩
end Go.Proofs.YtfbkifcgdkgllaaDoor
