/-
  RefInt RefLess RefMul RefSmall RefApi RefText RefNum WholeJ NumWalk NumAny, one behind the other: a claim holds at most 60 files.
-/
import Derived.Test.YtjlgiejggcbgbaaGreatDoorRefWh
import Derived.Test.YtjlgiejggcbgbaaGreatDoorRefMulMath
import Derived.Test.YtjlgiejggcbgbaaGreatDoorNatShMath
import Derived.Lib.QuietBelow
import Derived.BigQuiet
import Derived.Test.YtjlgiejggcbgbaaGreatDoorRefBase
import Derived.Test.YtjlgiejggcbgbaaGreatDoorRefNat
import Derived.Test.YtjlgiejggcbgbaaGreatDoorWholeF
import Derived.Test.YtjlgiejggcbgbaaGreatDoorWholeH
section
namespace Go.Proofs.YtjlgiejggcbgbaaGreatDoor
open Go.RowKit Go.Shelf
attribute [local go_sem ↓] eql_nat neq_nat eql_int5 neq_int5

theorem rmay_pos (x0 x1 x2 x3 : Int) (w : World) :
    Calls Tryz.prog 30 #[.agg #[.bool false, .int .u64 x0, .int .u64 x1, .int .u64 x2, .int .u64 x3]] w fun e w' => e = .returned (.bool true) ∧ Below w.heap.size w w' := by
  go_enter Tryz.func30, Tryz.ntmps30
  go_wp2
  go_ret
  exact ⟨rfl, by repeat (first | exact Below.refl _ _ | refine bal ?_ _ | refine Below.drew ?_ | refine bdn ?_ _)⟩
theorem rmay_neg (x0 x1 x2 x3 : Int) (w : World) :
    Calls Tryz.prog 30 #[.agg #[.bool true, .int .u64 x0, .int .u64 x1, .int .u64 x2, .int .u64 x3]] w fun e w' => e = .returned (.bool (!eq4 x0 x1 x2 x3 0 0 0 0)) ∧ Below w.heap.size w w' := by
  go_enter Tryz.func30, Tryz.ntmps30
  go_wp2
  go_ret
  exact ⟨rfl, by repeat (first | exact Below.refl _ _ | refine bal ?_ _ | refine Below.drew ?_ | refine bdn ?_ _)⟩
theorem rofint_pos (v : Int) (h0 : ¬ v < 0) (h1 : v < 9223372036854775808) (w : World) :
    Calls Tryz.prog 11 #[.int .i64 v] w fun e w' => e = .returned (.agg #[.bool false, .int .u64 v, .int .u64 0, .int .u64 0, .int .u64 0]) ∧ Below w.heap.size w w' := by
  have w1 : IntKind.u64.wrap v = v := by rw [IntKind.wrap_u64]; omega
  go_enter Tryz.func11, Tryz.ntmps11
  go_wp2
  refine bodyPost_ret (v := .agg #[.bool false, .int .u64 v, .int .u64 0, .int .u64 0, .int .u64 0]) (by simp [results, Tryz.results11, go_sem]) rfl ⟨rfl, ?_⟩
  repeat (first | (with_reducible exact Below.refl _ _) | (with_reducible refine bal ?_ _) | (with_reducible refine Below.drew ?_) | (with_reducible refine bdn ?_ _) | ((with_reducible refine bsc ?_ ?_ _); rotate_left; (focus (simp only []; omega))))
theorem rofint_neg (v p q : Int) (h0 : v < 0) (h1 : -9223372036854775808 ≤ v) (hp : p = v + 1) (hq : q = -p) (w : World) :
    Calls Tryz.prog 11 #[.int .i64 v] w fun e w' => e = .returned (.agg #[.bool true, .int .u64 (-v), .int .u64 0, .int .u64 0, .int .u64 0]) ∧ Below w.heap.size w w' := by
  have w0 : IntKind.i64.wrap (v + 1) = p := by rw [Go.IntWalk.i64_in _ (by omega)]; omega
  have w1 : IntKind.i64.wrap (-p) = q := by rw [Go.IntWalk.i64_in _ (by omega)]; omega
  have w2 : IntKind.u64.wrap q = q := by rw [IntKind.wrap_u64]; omega
  have w3 : IntKind.u64.wrap (q + 1) = -v := by rw [IntKind.wrap_u64]; omega
  clear hp hq
  go_enter Tryz.func11, Tryz.ntmps11
  go_wp2
  refine bodyPost_ret (v := .agg #[.bool true, .int .u64 (-v), .int .u64 0, .int .u64 0, .int .u64 0]) (by simp [results, Tryz.results11, go_sem]) rfl ⟨rfl, ?_⟩
  repeat (first | (with_reducible exact Below.refl _ _) | (with_reducible refine bal ?_ _) | (with_reducible refine Below.drew ?_) | (with_reducible refine bdn ?_ _) | ((with_reducible refine bsc ?_ ?_ _); rotate_left; (focus (simp only []; omega))))
end Go.Proofs.YtjlgiejggcbgbaaGreatDoor
end
section
namespace Go.Proofs.YtjlgiejggcbgbaaGreatDoor
open Go.RowKit Go.Shelf

/-- A word out of two halves. -/
theorem word_or (c a s : Nat) (hc : c < 4294967296) (ha : a < 4294967296) (hs : s = c * 4294967296 + a) : bits .or .u64 (IntKind.u64.wrap ((c : Int) * 4294967296)) (a : Int) = (s : Int) := by
  have e0 : (4294967296 : Int) = 2 ^ 32 := by decide
  rw [e0, wrap_mul_pow]
  have e : c * 2 ^ 32 % 2 ^ 64 = 2 ^ 32 * c := by omega
  rw [e, u64_or_nat _ _ (by omega) (by omega), ← Nat.two_pow_add_eq_or_of_lt (i := 32) (b := a) (by omega) c]
  omega
/-- What holds at the head of Less's loop, k digits still to be divided. -/
def LessAt (x d n k c : Nat) (O : List Nat) : Prop :=
  O.length = n ∧ Sm O ∧ c = x / 2 ^ (32 * k) % d ∧ dval O = 2 ^ (32 * k) * (x / 2 ^ (32 * k) / d)
theorem LessAt.start {x d n : Nat} (hx : x < 2 ^ (32 * n)) : LessAt x d n n 0 (List.replicate n 0) :=
  ⟨by simp, Sm.zeros n, by rw [Nat.div_eq_of_lt hx, Nat.zero_mod], by rw [dval_zeros, Nat.div_eq_of_lt hx, Nat.zero_div, Nat.mul_zero]⟩
theorem LessAt.next {x d n i c : Nat} {O : List Nat} (hd : 0 < d) (hi : i < n) (h : LessAt x d n (i + 1) c O) {s : Nat} (hs : s = c * 4294967296 + x / 2 ^ (32 * i) % 4294967296) :
    s / d < 4294967296 ∧ LessAt x d n i (s % d) (O.set i (s / d)) := by
  obtain ⟨h1, h2, h3, h4⟩ := h
  have hc : c < d := by rw [h3]; exact Nat.mod_lt _ hd
  have hl := less_lt (x := x) (i := i) hd hc
  rw [← hs] at hl
  obtain ⟨s1, s2⟩ := less_step (x := x) (i := i) hd h3 rfl
  rw [← hs] at s1 s2
  have h0 : O.getD i 0 = 0 := by
    rw [← dval_get h2, h4, pow_step, Nat.mul_assoc, Nat.mul_div_cancel_left _ (Nat.two_pow_pos _), Nat.mul_mod_right]
  have e := dval_set O i (s / d) (by omega)
  rw [h0, Nat.mul_zero, Nat.add_zero, h4, pow_step, Nat.mul_assoc, ← Nat.mul_add] at e
  refine ⟨hl, by simp [h1], h2.set _ hl, s1.symm, ?_⟩
  rw [e, s2]
  rw [pow_step]
  congr 1
  omega
end Go.Proofs.YtjlgiejggcbgbaaGreatDoor
end
section
namespace Go.Proofs.YtjlgiejggcbgbaaGreatDoor
open Go.RowKit Go.Shelf
open Go.Sort (grow)

theorem calls_below0 {f : FuncId} {args : Array Value} {w : World} {r : Ending} (h : Calls Tryz.prog f args w fun e w' => e = r ∧ w' = w) : Calls Tryz.prog f args w fun e w' => e = r ∧ Below w.heap.size w w' :=
  h.mono fun _ _ ⟨he, hw⟩ => ⟨he, by rw [hw]; exact Below.refl _ _⟩
set_option maxHeartbeats 2000000 in
set_option maxRecDepth 100000 in
theorem rmul_core (ba oa : Nat) (B : Option Addr) (n ca m cb x y N : Nat) (hn : n = (digs x).length) (hm : m = (digs y).length) (hn0 : 0 < n) (hn1 : n ≤ 1000) (hm1 : m ≤ 1000) (hN : N = n + m + 1) (w : World)
    (hba : ba < w.heap.size) (hx : Cs w ba oa (digs x)) (hy : DR w (.slice B m cb) y) :
    Calls Tryz.prog 75 #[.slice (some ⟨ba, oa, none⟩) n ca, .slice B m cb] w fun e w' => ∃ s', e = .returned s' ∧ DR w' s' (x * y) ∧ Below w.heap.size w w' := by
  have hmk := make_u32 N (by omega) ((n : Int) + (m : Int) + 1) (by omega)
  obtain ⟨M, hM⟩ : ∃ M, M = (U32s (List.replicate N 0)).toArray := ⟨_, rfl⟩
  rw [← hM] at hmk
  have HMM := Lib.hid hM; clear hM
  have HN := Lib.hid hn; have HM := Lib.hid hm; have HX := Lib.hid hx; have HY := Lib.hid hy; have HNN := Lib.hid hN; clear hn hm hx hy hN
  go_enter Tryz.func75, Tryz.ntmps75
  go_wp2
  go_loopw [6] (fun i wr => ∃ (k : Nat) (O : List Nat), i = .int .i64 (k : Int) ∧ k ≤ n ∧ Hid (MulOut x y N k O) ∧ Hid (Dk wr w.heap.size O) ∧ Below w.heap.size w wr)
    (fun i _ => n - (intOf i).toNat)
  case atStart => exact ⟨0, _, rfl, by omega, MulOut.zero x y N, (by show Dk _ _ _; rw [HMM.out]; exact Dk.new w _), bal (Below.refl _ _) _⟩
  case round =>
    obtain ⟨k, O, rfl, hk, HI, HD, hbw⟩ := hrel
    obtain ⟨wo, rfl⟩ : ∃ wo : World, wo = wr := ⟨_, rfl⟩
    by_cases h1 : k < n
    · obtain ⟨a, ha⟩ : ∃ a, a = x / 2 ^ (32 * k) % 4294967296 := ⟨_, rfl⟩
      have ha1 : a < 4294967296 := by omega
      have HA := Lib.hid ha; clear ha
      go_wp2
      go_loopw [7, 8] (fun c j wi => ∃ (q cc : Nat) (P : List Nat), c = .int .u64 (cc : Int) ∧ j = .int .i64 (q : Int) ∧ q ≤ m + 1 ∧ Hid (MulIn x y N k q cc P) ∧ Hid (q = m + 1 → cc = 0) ∧ Hid (Dk wi w.heap.size P) ∧ Below w.heap.size w wi)
        (fun _ j _ => m + 1 - (intOf j).toNat)
      case atStart => exact ⟨0, 0, O, rfl, rfl, by omega, HI.out.into, fun h => by omega, HD, hbw⟩
      case round =>
        obtain ⟨q, cc, P, rfl, rfl, hq, HJ, HC, HE, hbi⟩ := hrel
        obtain ⟨wv, rfl⟩ : ∃ wv : World, wv = wr := ⟨_, rfl⟩
        have hc1 : cc < 4294967296 := HJ.out.2.2.1
        by_cases hgo : q < m ∨ 0 < cc
        · have hqm : q ≤ m := by
            apply Decidable.byContradiction
            intro h
            have := HC.out (by omega)
            omega
          obtain ⟨p, hp⟩ : ∃ p, p = k + q := ⟨_, rfl⟩
          have hpN : p < N := by have := HNN.out; omega
          obtain ⟨b, hb⟩ : ∃ b, b = y / 2 ^ (32 * q) % 4294967296 := ⟨_, rfl⟩
          have hb1 : b < 4294967296 := by omega
          have hl : P.length = N := HJ.out.1
          obtain ⟨o, ho⟩ : ∃ o, o = P.getD (k + q) 0 := ⟨_, rfl⟩
          have ho1 : o < 4294967296 := by rw [ho]; exact HJ.out.2.1.get _
          obtain ⟨sb, ab⟩ := sum_bound hc1 ho1 ha1 hb1
          obtain ⟨s, hs⟩ : ∃ s, s = cc + o + a * b := ⟨_, rfl⟩
          obtain ⟨pr, hpr⟩ : ∃ pr, pr = a * b := ⟨_, rfl⟩
          have hNX := HJ.out.next (by omega) ho HA.out hb hs (by rw [hs]; exact sb)
          have hlast : q = m → cc + o < 4294967296 := by
            intro e
            rw [ho]
            exact HJ.out.last (by have := HM.out; omega)
          have hb0 : q = m → b = 0 := by
            intro e
            have := digs_len.1 (show (digs y).length ≤ q by have := HM.out; omega)
            rw [hb, Nat.div_eq_of_lt this]
          have hC' : q + 1 = m + 1 → s / 4294967296 = 0 := by
            intro e
            have e1 := hlast (by omega)
            have e2 := hb0 (by omega)
            rw [hs, e2, Nat.mul_zero]; omega
          have q1 := HE.out.cell (i := p) (by omega)
          rw [hp, ← ho, ← hp] at q1
          have q2 : wv.cell? ⟨ba, oa + k, none⟩ = some (.int .u32 (a : Int)) := by
            rw [hbi.cell (p := ⟨ba, oa + k, none⟩) hba, HX.out k (by have := HN.out; omega), digs_get, ← HA.out]
          have q3 : ∀ W, Below wv.heap.size wv W → Calls Tryz.prog 76 #[.slice B m cb, .int .i64 (q : Int)] W fun e w' => e = .returned (.int .u64 (b : Int)) ∧ Below W.heap.size W w' := fun W hW => by
            have h := at_dr ((HY.out.keep hbi).keep hW) (q : Int) (by omega)
            rw [Int.toNat_natCast, ← hb] at h
            exact calls_below0 h
          have f2 : Hid (∀ W, Below wv.heap.size wv W → W.cell? ⟨w.heap.size, p, none⟩ = some (.int .u32 (o : Int)) ∧ W.frozen? ⟨w.heap.size, p, none⟩ = false ∧ Dk W w.heap.size P) := fun W hW => by
            have h := HE.out.keep hW
            exact ⟨by rw [h.cell (by omega), hp, ← ho], h.free p, h⟩
          have w0 : IntKind.i64.wrap ((k : Int) + (q : Int)) = (p : Int) := by rw [Go.IntWalk.i64_in _ (by omega)]; omega
          have w1 : IntKind.u64.wrap (o : Int) = (o : Int) := by rw [IntKind.wrap_u64]; omega
          have w2 : IntKind.u64.wrap (a : Int) = (a : Int) := by rw [IntKind.wrap_u64]; omega
          have w3 : IntKind.u64.wrap ((cc : Int) + (o : Int)) = (cc : Int) + (o : Int) := by rw [IntKind.wrap_u64]; omega
          have w4 : IntKind.u64.wrap ((a : Int) * (b : Int)) = (pr : Int) := by rw [IntKind.wrap_u64, ← Int.natCast_mul, ← hpr]; omega
          have w5 : IntKind.u64.wrap ((cc : Int) + (o : Int) + (pr : Int)) = (s : Int) := by rw [IntKind.wrap_u64]; omega
          have b0 : (0 : Int) ≤ (p : Int) := by omega
          have b1 : (p : Int) < (N : Int) := by omega
          have b2 : (0 : Int) ≤ (k : Int) := by omega
          have b3 : (k : Int) < (n : Int) := by omega
          have t0 : ((p : Int)).toNat = p := Int.toNat_natCast p
          have t1 : ((k : Int)).toNat = k := Int.toNat_natCast k
          have hs2 : s < 18446744073709551616 := by omega
          have hsp : (k : Int) + (q : Int) = (p : Int) := by omega
          have HSP := Lib.hid hsp
          rw [← hp] at hNX
          have HSET := Lib.hid hNX
          have HCC := Lib.hid hC'
          clear hNX hC' hlast hb0 hs hpr ho hb hp HA sb ab hsp
          have hcase : (q < m) ∨ (¬ q < m ∧ 0 < cc) := by omega
          clear hgo
          rcases hcase with h2 | ⟨h2, h3⟩
          all_goals
            go_upto_region 9 with (fail)
            have g1 := cell_regrown q1
            have g2 := cell_regrown q2
            have cq0 := fun (d : Nat) (os : Array Obj) => Calls.regrown_of (w := wv) (d := d) (os := os) (q3 _ (below_regrown wv d os))
            refine wp_region_quiet_below (by kernel_rfl) (by kernel_rfl) ?_
            repeat (first | go_big_quiet_step ((first | (with_reducible exact cq0 _ _))) | quiet_step (first | (with_reducible exact cq0 _ _)))
            refine wpQuiet_nil ?_
            intro _ hw'
            obtain ⟨⟨dq, osq⟩, hw''⟩ := hw'
            subst hw''
            clear g1 g2 cq0
            have hb := below_regrown wv dq osq
            generalize grow (redrawn wv dq) osq = wq at *
            obtain ⟨r1, r2, r3⟩ := f2.out _ hb
            have hbq : Below w.heap.size w wq := btr hbi hb
            have HR := Lib.hid r3
            clear r3 hb f2 q1 q2 w0 w1 w2 w3 w4 w5
            have hsp := HSP.out
            go_wp2
            go_roundw
            case rel => exact ⟨q + 1, s / 4294967296, P.set p (s % 4294967296), by (congr 1), by go_num, by omega, HSET.out, HCC.out, HR.out.set p _ _ (by omega), bsc hbq (Nat.le_refl _) _⟩
            case measure => simp [intOf]; omega
        · have hq2 : ¬ q < m := by omega
          obtain rfl : cc = 0 := by omega
          have HO : Hid (MulOut x y N (k + 1) P) := HJ.out.stop (by have := HM.out; omega)
          clear hgo
          go_wp2
          go_roundw
          case rel => exact ⟨k + 1, P, by go_num, by omega, HO, HE, hbi⟩
          case measure => simp [intOf]; omega
    · have hv := HI.out.stop (by rw [← HN.out]; omega)
      have hl : O.length = N := HI.out.1
      have hrd := HD.out.rd (by rw [hl]; have := HNN.out; omega)
      rw [hl] at hrd
      have ht := trim_dr hrd HI.out.2.1
      rw [hv] at ht
      have HT := Lib.hid ht
      clear ht hv hl hrd
      go_wp2_with fail
      refine HT.out.mono ?_
      rintro e w1 ⟨s', rfl, hr, hw⟩
      rw [hw]; clear hw w1
      go_wp2
      go_ret
      exact ⟨s', rfl, hr, hbw⟩
end Go.Proofs.YtjlgiejggcbgbaaGreatDoor
end
section
namespace Go.Proofs.YtjlgiejggcbgbaaGreatDoor
open Go.RowKit Go.Shelf

end Go.Proofs.YtjlgiejggcbgbaaGreatDoor
end
section
namespace Go.Proofs.YtjlgiejggcbgbaaGreatDoor
open Go.RowKit Go.Shelf

theorem radd {s t : Value} {x y : Nat} {w : World} (hx : DR w s x) (hy : DR w t y) (lx : (digs x).length ≤ 1000) (ly : (digs y).length ≤ 1000) :
    Calls Tryz.prog 50 #[s, t] w fun e w' => ∃ s', e = .returned s' ∧ DR w' s' (x + y) ∧ Below w.heap.size w w' := by
  obtain ⟨A, ca, rfl, _⟩ := hx.form
  obtain ⟨B, cb, rfl, _⟩ := hy.form
  exact radd_core A B _ ca _ cb x y rfl rfl lx ly w hx hy
theorem rsub {s t : Value} {x y : Nat} {w : World} (hx : DR w s x) (hy : DR w t y) (lx : (digs x).length ≤ 1000) (hyx : y ≤ x) :
    Calls Tryz.prog 54 #[s, t] w fun e w' => ∃ s', e = .returned s' ∧ DR w' s' (x - y) ∧ Below w.heap.size w w' := by
  obtain ⟨A, ca, rfl, _⟩ := hx.form
  obtain ⟨B, cb, rfl, _⟩ := hy.form
  exact rsub_core A B _ ca _ cb x y rfl lx hyx w hx hy
set_option maxHeartbeats 1000000 in
set_option maxRecDepth 100000 in
theorem rmul_zero (A B : Option Addr) (n ca m cb N : Nat) (h0 : n = 0) (hm1 : m ≤ 1000) (hN : N = n + m + 1) (w : World) :
    Calls Tryz.prog 75 #[.slice A n ca, .slice B m cb] w fun e w' => ∃ s', e = .returned s' ∧ DR w' s' 0 ∧ Below w.heap.size w w' := by
  have hmk := make_u32 N (by omega) ((n : Int) + (m : Int) + 1) (by omega)
  obtain ⟨M, hM⟩ : ∃ M, M = (U32s (List.replicate N 0)).toArray := ⟨_, rfl⟩
  rw [← hM] at hmk
  have hrd : Rd (w.alloc (.cells M 68)) (.slice (some ⟨w.heap.size, 0, none⟩) N N) (List.replicate N 0) := by
    rw [hM]
    have h := Dk.rd (Dk.new w (List.replicate N 0)) (by rw [List.length_replicate]; omega)
    rw [List.length_replicate] at h
    exact h
  have ht := trim_dr hrd (Sm.zeros N)
  rw [dval_zeros] at ht
  have hd : n ≤ 0 := by omega
  have hn9 : n ≤ 1000 := by omega
  have HT := Lib.hid ht; clear ht hrd hM h0 hN
  go_enter Tryz.func75, Tryz.ntmps75
  go_wp2
  refine wp_loop_rounds 1 ?_
  rw [rounds_succ]
  go_wp2_with fail
  refine HT.out.mono ?_
  rintro e w1 ⟨s', rfl, hr, hw⟩
  rw [hw]; clear hw w1
  go_wp2
  go_ret
  exact ⟨s', rfl, hr, bal (Below.refl _ _) _⟩
theorem rmul {s t : Value} {x y : Nat} {w : World} (hx : DR w s x) (hy : DR w t y) (lx : (digs x).length ≤ 1000) (ly : (digs y).length ≤ 1000) :
    Calls Tryz.prog 75 #[s, t] w fun e w' => ∃ s', e = .returned s' ∧ DR w' s' (x * y) ∧ Below w.heap.size w w' := by
  obtain ⟨B, cb, rfl, _⟩ := hy.form
  by_cases h0 : (digs x).length = 0
  · obtain ⟨A, ca, rfl, _⟩ := hx.form
    have hx0 : x = 0 := by have := digs_len.1 (show (digs x).length ≤ 0 by omega); simpa using this
    have hz := rmul_zero A B _ ca _ cb _ h0 ly rfl w
    rw [show x * y = 0 from by rw [hx0, Nat.zero_mul]]
    exact hz
  · rcases hx with ⟨h, _⟩ | ⟨b, off, c, rfl, hc, hlt, hcs⟩
    · rw [h] at h0; exact absurd rfl h0
    · exact rmul_core b off B _ c _ cb x y _ rfl rfl (by omega) lx ly rfl w hlt hcs hy
end Go.Proofs.YtjlgiejggcbgbaaGreatDoor
end
section
namespace Go.Proofs.YtjlgiejggcbgbaaGreatDoor
open Go.RowKit Go.Shelf
theorem digs_some {x : Nat} (h : x ≠ 0) : 0 < (digs x).length := by rw [digs_pos h]; simp
theorem ten_new (W : World) (z : Nat) (hz0 : z ≠ 0) (hz : z < 4294967296) (Z : Int) (e : Z = (z : Int)) : DR (W.alloc (.cells #[.int .u32 Z] 68)) (.slice (some ⟨W.heap.size, 0, none⟩) 1 1) z := by
  subst e
  have ed : digs z = [z] := by rw [digs_pos hz0, Nat.mod_eq_of_lt hz, Nat.div_eq_of_lt hz, digs_zero]
  unfold DR
  rw [ed]
  refine .inr ⟨W.heap.size, 0, 1, rfl, ⟨Nat.le_refl 1, by decide⟩, by simp, fun i hi => ?_⟩
  obtain rfl : i = 0 := by simp at hi; omega
  exact cell_of_row _ W.heap.size 0 _ _ _ (heap_alloc_new W _)

end Go.Proofs.YtjlgiejggcbgbaaGreatDoor
end
section
namespace Go.Proofs.YtjlgiejggcbgbaaGreatDoor
open Go.RowKit Go.Shelf
attribute [local go_sem ↓] eql_nat neq_nat eql_int5 neq_int5

theorem digs_of_eight {x : Nat} (h : x < 2 ^ 256) : (digs x).length ≤ 1000 := Nat.le_trans (digs_len.2 (show x < 2 ^ (32 * 8) from h)) (by decide)
theorem rcmp_of {x y : Nat} {c : Int} (hc : rcv x y = c) (lx : (digs x).length ≤ 1000) {s t : Value} {w : World} (hx : DR w s x) (hy : DR w t y) :
    Calls Tryz.prog 48 #[s, t] w fun e w' => e = .returned (.int .i64 c) ∧ Below w.heap.size w w' := by
  have := rcmp hx hy lx
  rw [hc] at this
  exact this
theorem both55 {W : World} {b c : Nat} {v0 v1 v2 v3 v4 u0 u1 u2 u3 u4 : Value} (h : Row5 W b v0 v1 v2 v3 v4) (k : Row5 W c u0 u1 u2 u3 u4) :
    W.cell? ⟨b, 0, none⟩ = some v0 ∧ W.cell? ⟨b, 1, none⟩ = some v1 ∧ W.cell? ⟨b, 2, none⟩ = some v2 ∧ W.cell? ⟨b, 3, none⟩ = some v3 ∧ W.cell? ⟨b, 4, none⟩ = some v4 ∧ W.cell? ⟨c, 0, none⟩ = some u0 ∧ W.cell? ⟨c, 1, none⟩ = some u1 ∧ W.cell? ⟨c, 2, none⟩ = some u2 ∧ W.cell? ⟨c, 3, none⟩ = some u3 ∧ W.cell? ⟨c, 4, none⟩ = some u4 :=
  ⟨h.parts.1, h.parts.2.1, h.parts.2.2.1, h.parts.2.2.2.1, h.parts.2.2.2.2, k.parts⟩
set_option maxHeartbeats 1000000 in
set_option maxRecDepth 100000 in
theorem rcmpint_tf (x y : Nat)  (w : World) :
    Calls Tryz.prog 23 #[I5 true x, I5 false y] w fun e w' => e = .returned (.int .i64 (-1)) ∧ Below w.heap.size w w' := by
  unfold I5
  go_enter Tryz.func23, Tryz.ntmps23
  go_wp2
  go_ret
  exact ⟨rfl, by repeat (first | (with_reducible exact Below.refl _ _) | (with_reducible refine bal ?_ _) | (with_reducible refine Below.drew ?_) | (with_reducible refine bdn ?_ _))⟩
set_option maxHeartbeats 1000000 in
set_option maxRecDepth 100000 in
theorem rcmpint_ft (x y : Nat)  (w : World) :
    Calls Tryz.prog 23 #[I5 false x, I5 true y] w fun e w' => e = .returned (.int .i64 1) ∧ Below w.heap.size w w' := by
  unfold I5
  go_enter Tryz.func23, Tryz.ntmps23
  go_wp2
  go_ret
  exact ⟨rfl, by repeat (first | (with_reducible exact Below.refl _ _) | (with_reducible refine bal ?_ _) | (with_reducible refine Below.drew ?_) | (with_reducible refine bdn ?_ _))⟩
set_option maxHeartbeats 1000000 in
set_option maxRecDepth 100000 in
theorem rcmpint_ff (x y : Nat) (hx : x < 2 ^ 256) (hy : y < 2 ^ 256) (c : Int) (hc : rcv x y = c) (w : World) :
    Calls Tryz.prog 23 #[I5 false x, I5 false y] w fun e w' => e = .returned (.int .i64 c) ∧ Below w.heap.size w w' := by
  unfold I5
  have L1 := Lib.hid (digs_of_eight hx)
  have HX := Lib.hid hx; have HY := Lib.hid hy; have HC := Lib.hid hc; clear hx hy hc
  go_enter Tryz.func23, Tryz.ntmps23
  go_upto_region 5 with (fail)
  go_name_world w1 hw1
  have BW1 : Below w.heap.size w w1 := by rw [← hw1]; repeat (first | (with_reducible exact Below.refl _ _) | (with_reducible refine bal ?_ _) | (with_reducible refine Below.drew ?_) | (with_reducible refine bdn ?_ _))
  have X1 : Row5 w1 w.heap.size (.bool false) (.int .u64 (lb 0 x)) (.int .u64 (lb 1 x)) (.int .u64 (lb 2 x)) (.int .u64 (lb 3 x)) := by rw [← hw1]; exact (by repeat (first | (with_reducible exact Row5.new _ _ _ _ _ _) | ((with_reducible refine Row5.new' _ ?_ _ _ _ _ _); (simp; done)) | (with_reducible refine Row5.alloc ?_ _) | (with_reducible refine Row5.drew ?_)))
  have Y1 : Row5 w1 (w.heap.size + 1) (.bool false) (.int .u64 (lb 0 y)) (.int .u64 (lb 1 y)) (.int .u64 (lb 2 y)) (.int .u64 (lb 3 y)) := by rw [← hw1]; exact (by repeat (first | (with_reducible exact Row5.new _ _ _ _ _ _) | ((with_reducible refine Row5.new' _ ?_ _ _ _ _ _); (simp; done)) | (with_reducible refine Row5.alloc ?_ _) | (with_reducible refine Row5.drew ?_)))
  clear hw1
  have lt_X := X1.lt
  have lt_Y := Y1.lt
  go_region_held3 (fun w' => w'.cell? ⟨w.heap.size, 0, none⟩ = some (.bool false) ∧ w'.cell? ⟨w.heap.size, 1, none⟩ = some (.int .u64 (lb 0 x)) ∧ w'.cell? ⟨w.heap.size, 2, none⟩ = some (.int .u64 (lb 1 x)) ∧ w'.cell? ⟨w.heap.size, 3, none⟩ = some (.int .u64 (lb 2 x)) ∧ w'.cell? ⟨w.heap.size, 4, none⟩ = some (.int .u64 (lb 3 x)) ∧ w'.cell? ⟨(w.heap.size + 1), 0, none⟩ = some (.bool false) ∧ w'.cell? ⟨(w.heap.size + 1), 1, none⟩ = some (.int .u64 (lb 0 y)) ∧ w'.cell? ⟨(w.heap.size + 1), 2, none⟩ = some (.int .u64 (lb 1 y)) ∧ w'.cell? ⟨(w.heap.size + 1), 3, none⟩ = some (.int .u64 (lb 2 y)) ∧ w'.cell? ⟨(w.heap.size + 1), 4, none⟩ = some (.int .u64 (lb 3 y)))
    ((refine both55 ?_ ?_; (focus (repeat (first | (with_reducible assumption) | (with_reducible refine Row5.alloc ?_ _) | (with_reducible refine Row5.drew ?_) | (with_reducible refine Row5.drewN ?_ _)))); (focus (repeat (first | (with_reducible assumption) | (with_reducible refine Row5.alloc ?_ _) | (with_reducible refine Row5.drew ?_) | (with_reducible refine Row5.drewN ?_ _)))); done))
    (first | (go_at_call 29; (with_reducible refine (rof x HX.out _).mono ?_); rintro e wf1_1 ⟨s1, rfl, hr1_1, hb1_1⟩; have hx1_1 : Below w1.heap.size w1 wf1_1 := btr (by repeat (first | (with_reducible exact Below.refl _ _) | (with_reducible refine bal ?_ _) | (with_reducible refine Below.drew ?_) | (with_reducible refine bdn ?_ _))) hb1_1; have Xf1 : Row5 wf1_1 w.heap.size (.bool false) (.int .u64 (lb 0 x)) (.int .u64 (lb 1 x)) (.int .u64 (lb 2 x)) (.int .u64 (lb 3 x)) := Row5.keep hb1_1 (by repeat (first | (with_reducible assumption) | (with_reducible refine Row5.alloc ?_ _) | (with_reducible refine Row5.drew ?_) | (with_reducible refine Row5.drewN ?_ _))); have Yf1 : Row5 wf1_1 (w.heap.size + 1) (.bool false) (.int .u64 (lb 0 y)) (.int .u64 (lb 1 y)) (.int .u64 (lb 2 y)) (.int .u64 (lb 3 y)) := Row5.keep hb1_1 (by repeat (first | (with_reducible assumption) | (with_reducible refine Row5.alloc ?_ _) | (with_reducible refine Row5.drew ?_) | (with_reducible refine Row5.drewN ?_ _)))) | (go_at_call 29; (with_reducible refine (rof y HY.out _).mono ?_); rintro e wf1_2 ⟨s2, rfl, hr1_2, hb1_2⟩; have hx1_2 : Below wf1_1.heap.size wf1_1 wf1_2 := btr (by repeat (first | (with_reducible exact Below.refl _ _) | (with_reducible refine bal ?_ _) | (with_reducible refine Below.drew ?_) | (with_reducible refine bdn ?_ _))) hb1_2; have Xf2 : Row5 wf1_2 w.heap.size (.bool false) (.int .u64 (lb 0 x)) (.int .u64 (lb 1 x)) (.int .u64 (lb 2 x)) (.int .u64 (lb 3 x)) := Row5.keep hb1_2 (by repeat (first | (with_reducible assumption) | (with_reducible refine Row5.alloc ?_ _) | (with_reducible refine Row5.drew ?_) | (with_reducible refine Row5.drewN ?_ _))); have Yf2 : Row5 wf1_2 (w.heap.size + 1) (.bool false) (.int .u64 (lb 0 y)) (.int .u64 (lb 1 y)) (.int .u64 (lb 2 y)) (.int .u64 (lb 3 y)) := Row5.keep hb1_2 (by repeat (first | (with_reducible assumption) | (with_reducible refine Row5.alloc ?_ _) | (with_reducible refine Row5.drew ?_) | (with_reducible refine Row5.drewN ?_ _))); have DXf1_2 : DR wf1_2 s1 x := DR.keep hx1_2 hr1_1) | (go_at_call 48; (with_reducible refine (rcmp_of HC.out L1.out (DR.keep (by repeat (first | (with_reducible exact Below.refl _ _) | (with_reducible refine bal ?_ _) | (with_reducible refine Below.drew ?_) | (with_reducible refine bdn ?_ _))) DXf1_2) (DR.keep (by repeat (first | (with_reducible exact Below.refl _ _) | (with_reducible refine bal ?_ _) | (with_reducible refine Below.drew ?_) | (with_reducible refine bdn ?_ _))) hr1_2)).mono ?_); rintro e wf1_3 ⟨rfl, hb1_3⟩; have hx1_3 : Below wf1_2.heap.size wf1_2 wf1_3 := btr (by repeat (first | (with_reducible exact Below.refl _ _) | (with_reducible refine bal ?_ _) | (with_reducible refine Below.drew ?_) | (with_reducible refine bdn ?_ _))) hb1_3; have Xf3 : Row5 wf1_3 w.heap.size (.bool false) (.int .u64 (lb 0 x)) (.int .u64 (lb 1 x)) (.int .u64 (lb 2 x)) (.int .u64 (lb 3 x)) := Row5.keep hb1_3 (by repeat (first | (with_reducible assumption) | (with_reducible refine Row5.alloc ?_ _) | (with_reducible refine Row5.drew ?_) | (with_reducible refine Row5.drewN ?_ _))); have Yf3 : Row5 wf1_3 (w.heap.size + 1) (.bool false) (.int .u64 (lb 0 y)) (.int .u64 (lb 1 y)) (.int .u64 (lb 2 y)) (.int .u64 (lb 3 y)) := Row5.keep hb1_3 (by repeat (first | (with_reducible assumption) | (with_reducible refine Row5.alloc ?_ _) | (with_reducible refine Row5.drew ?_) | (with_reducible refine Row5.drewN ?_ _))); have DXf1_3 : DR wf1_3 s1 x := DR.keep hx1_3 DXf1_2; have DYf1_3 : DR wf1_3 s2 y := DR.keep hx1_3 hr1_2))
  have BW2 : Below w.heap.size w wf1_1 := btr (by repeat (first | (with_reducible exact BW1) | (with_reducible refine bal ?_ _) | (with_reducible refine Below.drew ?_) | (with_reducible refine bdn ?_ _))) hb1_1
  have X2 : Row5 wf1_1 w.heap.size (.bool false) (.int .u64 (lb 0 x)) (.int .u64 (lb 1 x)) (.int .u64 (lb 2 x)) (.int .u64 (lb 3 x)) := Row5.keep hb1_1 (by repeat (first | (with_reducible exact X1) | (with_reducible refine Row5.alloc ?_ _) | (with_reducible refine Row5.drew ?_)))
  have Y2 : Row5 wf1_1 (w.heap.size + 1) (.bool false) (.int .u64 (lb 0 y)) (.int .u64 (lb 1 y)) (.int .u64 (lb 2 y)) (.int .u64 (lb 3 y)) := Row5.keep hb1_1 (by repeat (first | (with_reducible exact Y1) | (with_reducible refine Row5.alloc ?_ _) | (with_reducible refine Row5.drew ?_)))
  clear X1 Y1 Xf1 Yf1 BW1
  have BW3 : Below w.heap.size w wf1_2 := btr (by repeat (first | (with_reducible exact BW2) | (with_reducible refine bal ?_ _) | (with_reducible refine Below.drew ?_) | (with_reducible refine bdn ?_ _))) hb1_2
  have X3 : Row5 wf1_2 w.heap.size (.bool false) (.int .u64 (lb 0 x)) (.int .u64 (lb 1 x)) (.int .u64 (lb 2 x)) (.int .u64 (lb 3 x)) := Row5.keep hb1_2 (by repeat (first | (with_reducible exact X2) | (with_reducible refine Row5.alloc ?_ _) | (with_reducible refine Row5.drew ?_)))
  have Y3 : Row5 wf1_2 (w.heap.size + 1) (.bool false) (.int .u64 (lb 0 y)) (.int .u64 (lb 1 y)) (.int .u64 (lb 2 y)) (.int .u64 (lb 3 y)) := Row5.keep hb1_2 (by repeat (first | (with_reducible exact Y2) | (with_reducible refine Row5.alloc ?_ _) | (with_reducible refine Row5.drew ?_)))
  clear X2 Y2 Xf2 Yf2 BW2
  have BW4 : Below w.heap.size w wf1_3 := btr (by repeat (first | (with_reducible exact BW3) | (with_reducible refine bal ?_ _) | (with_reducible refine Below.drew ?_) | (with_reducible refine bdn ?_ _))) hb1_3
  have X4 : Row5 wf1_3 w.heap.size (.bool false) (.int .u64 (lb 0 x)) (.int .u64 (lb 1 x)) (.int .u64 (lb 2 x)) (.int .u64 (lb 3 x)) := Row5.keep hb1_3 (by repeat (first | (with_reducible exact X3) | (with_reducible refine Row5.alloc ?_ _) | (with_reducible refine Row5.drew ?_)))
  have Y4 : Row5 wf1_3 (w.heap.size + 1) (.bool false) (.int .u64 (lb 0 y)) (.int .u64 (lb 1 y)) (.int .u64 (lb 2 y)) (.int .u64 (lb 3 y)) := Row5.keep hb1_3 (by repeat (first | (with_reducible exact Y3) | (with_reducible refine Row5.alloc ?_ _) | (with_reducible refine Row5.drew ?_)))
  clear X3 Y3 Xf3 Yf3 BW3
  have DX4 : DR wf1_3 s1 x := DXf1_3
  have DY4 : DR wf1_3 s2 y := DYf1_3
  clear hb1_1 hx1_1
  clear hb1_2 hx1_2
  clear hb1_3 hx1_3
  try clear DXf1_1
  try clear DYf1_1
  try clear DXf1_2
  try clear DYf1_2
  try clear DXf1_3
  try clear DYf1_3
  try clear hr1_1
  try clear hr1_2
  obtain ⟨Xc0, Xc1, Xc2, Xc3, Xc4⟩ := X4.parts
  obtain ⟨Xf0, Xf1, Xf2, Xf3, Xf4⟩ := X4.free
  go_wp2
  go_ret
  exact ⟨rfl, BW4⟩
set_option maxHeartbeats 1000000 in
set_option maxRecDepth 100000 in
theorem rcmpint_tt (x y : Nat) (hx : x < 2 ^ 256) (hy : y < 2 ^ 256) (c d : Int) (hc : rcv x y = c) (hd : IntKind.i64.wrap (-c) = d) (w : World) :
    Calls Tryz.prog 23 #[I5 true x, I5 true y] w fun e w' => e = .returned (.int .i64 d) ∧ Below w.heap.size w w' := by
  unfold I5
  have L1 := Lib.hid (digs_of_eight hx)
  have HX := Lib.hid hx; have HY := Lib.hid hy; have HC := Lib.hid hc; clear hx hy hc
  go_enter Tryz.func23, Tryz.ntmps23
  go_upto_region 5 with (fail)
  go_name_world w1 hw1
  have BW1 : Below w.heap.size w w1 := by rw [← hw1]; repeat (first | (with_reducible exact Below.refl _ _) | (with_reducible refine bal ?_ _) | (with_reducible refine Below.drew ?_) | (with_reducible refine bdn ?_ _))
  have X1 : Row5 w1 w.heap.size (.bool true) (.int .u64 (lb 0 x)) (.int .u64 (lb 1 x)) (.int .u64 (lb 2 x)) (.int .u64 (lb 3 x)) := by rw [← hw1]; exact (by repeat (first | (with_reducible exact Row5.new _ _ _ _ _ _) | ((with_reducible refine Row5.new' _ ?_ _ _ _ _ _); (simp; done)) | (with_reducible refine Row5.alloc ?_ _) | (with_reducible refine Row5.drew ?_)))
  have Y1 : Row5 w1 (w.heap.size + 1) (.bool true) (.int .u64 (lb 0 y)) (.int .u64 (lb 1 y)) (.int .u64 (lb 2 y)) (.int .u64 (lb 3 y)) := by rw [← hw1]; exact (by repeat (first | (with_reducible exact Row5.new _ _ _ _ _ _) | ((with_reducible refine Row5.new' _ ?_ _ _ _ _ _); (simp; done)) | (with_reducible refine Row5.alloc ?_ _) | (with_reducible refine Row5.drew ?_)))
  clear hw1
  have lt_X := X1.lt
  have lt_Y := Y1.lt
  go_region_held3 (fun w' => w'.cell? ⟨w.heap.size, 0, none⟩ = some (.bool true) ∧ w'.cell? ⟨w.heap.size, 1, none⟩ = some (.int .u64 (lb 0 x)) ∧ w'.cell? ⟨w.heap.size, 2, none⟩ = some (.int .u64 (lb 1 x)) ∧ w'.cell? ⟨w.heap.size, 3, none⟩ = some (.int .u64 (lb 2 x)) ∧ w'.cell? ⟨w.heap.size, 4, none⟩ = some (.int .u64 (lb 3 x)) ∧ w'.cell? ⟨(w.heap.size + 1), 0, none⟩ = some (.bool true) ∧ w'.cell? ⟨(w.heap.size + 1), 1, none⟩ = some (.int .u64 (lb 0 y)) ∧ w'.cell? ⟨(w.heap.size + 1), 2, none⟩ = some (.int .u64 (lb 1 y)) ∧ w'.cell? ⟨(w.heap.size + 1), 3, none⟩ = some (.int .u64 (lb 2 y)) ∧ w'.cell? ⟨(w.heap.size + 1), 4, none⟩ = some (.int .u64 (lb 3 y)))
    ((refine both55 ?_ ?_; (focus (repeat (first | (with_reducible assumption) | (with_reducible refine Row5.alloc ?_ _) | (with_reducible refine Row5.drew ?_) | (with_reducible refine Row5.drewN ?_ _)))); (focus (repeat (first | (with_reducible assumption) | (with_reducible refine Row5.alloc ?_ _) | (with_reducible refine Row5.drew ?_) | (with_reducible refine Row5.drewN ?_ _)))); done))
    (first | (go_at_call 29; (with_reducible refine (rof x HX.out _).mono ?_); rintro e wf1_1 ⟨s1, rfl, hr1_1, hb1_1⟩; have hx1_1 : Below w1.heap.size w1 wf1_1 := btr (by repeat (first | (with_reducible exact Below.refl _ _) | (with_reducible refine bal ?_ _) | (with_reducible refine Below.drew ?_) | (with_reducible refine bdn ?_ _))) hb1_1; have Xf1 : Row5 wf1_1 w.heap.size (.bool true) (.int .u64 (lb 0 x)) (.int .u64 (lb 1 x)) (.int .u64 (lb 2 x)) (.int .u64 (lb 3 x)) := Row5.keep hb1_1 (by repeat (first | (with_reducible assumption) | (with_reducible refine Row5.alloc ?_ _) | (with_reducible refine Row5.drew ?_) | (with_reducible refine Row5.drewN ?_ _))); have Yf1 : Row5 wf1_1 (w.heap.size + 1) (.bool true) (.int .u64 (lb 0 y)) (.int .u64 (lb 1 y)) (.int .u64 (lb 2 y)) (.int .u64 (lb 3 y)) := Row5.keep hb1_1 (by repeat (first | (with_reducible assumption) | (with_reducible refine Row5.alloc ?_ _) | (with_reducible refine Row5.drew ?_) | (with_reducible refine Row5.drewN ?_ _)))) | (go_at_call 29; (with_reducible refine (rof y HY.out _).mono ?_); rintro e wf1_2 ⟨s2, rfl, hr1_2, hb1_2⟩; have hx1_2 : Below wf1_1.heap.size wf1_1 wf1_2 := btr (by repeat (first | (with_reducible exact Below.refl _ _) | (with_reducible refine bal ?_ _) | (with_reducible refine Below.drew ?_) | (with_reducible refine bdn ?_ _))) hb1_2; have Xf2 : Row5 wf1_2 w.heap.size (.bool true) (.int .u64 (lb 0 x)) (.int .u64 (lb 1 x)) (.int .u64 (lb 2 x)) (.int .u64 (lb 3 x)) := Row5.keep hb1_2 (by repeat (first | (with_reducible assumption) | (with_reducible refine Row5.alloc ?_ _) | (with_reducible refine Row5.drew ?_) | (with_reducible refine Row5.drewN ?_ _))); have Yf2 : Row5 wf1_2 (w.heap.size + 1) (.bool true) (.int .u64 (lb 0 y)) (.int .u64 (lb 1 y)) (.int .u64 (lb 2 y)) (.int .u64 (lb 3 y)) := Row5.keep hb1_2 (by repeat (first | (with_reducible assumption) | (with_reducible refine Row5.alloc ?_ _) | (with_reducible refine Row5.drew ?_) | (with_reducible refine Row5.drewN ?_ _))); have DXf1_2 : DR wf1_2 s1 x := DR.keep hx1_2 hr1_1) | (go_at_call 48; (with_reducible refine (rcmp_of HC.out L1.out (DR.keep (by repeat (first | (with_reducible exact Below.refl _ _) | (with_reducible refine bal ?_ _) | (with_reducible refine Below.drew ?_) | (with_reducible refine bdn ?_ _))) DXf1_2) (DR.keep (by repeat (first | (with_reducible exact Below.refl _ _) | (with_reducible refine bal ?_ _) | (with_reducible refine Below.drew ?_) | (with_reducible refine bdn ?_ _))) hr1_2)).mono ?_); rintro e wf1_3 ⟨rfl, hb1_3⟩; have hx1_3 : Below wf1_2.heap.size wf1_2 wf1_3 := btr (by repeat (first | (with_reducible exact Below.refl _ _) | (with_reducible refine bal ?_ _) | (with_reducible refine Below.drew ?_) | (with_reducible refine bdn ?_ _))) hb1_3; have Xf3 : Row5 wf1_3 w.heap.size (.bool true) (.int .u64 (lb 0 x)) (.int .u64 (lb 1 x)) (.int .u64 (lb 2 x)) (.int .u64 (lb 3 x)) := Row5.keep hb1_3 (by repeat (first | (with_reducible assumption) | (with_reducible refine Row5.alloc ?_ _) | (with_reducible refine Row5.drew ?_) | (with_reducible refine Row5.drewN ?_ _))); have Yf3 : Row5 wf1_3 (w.heap.size + 1) (.bool true) (.int .u64 (lb 0 y)) (.int .u64 (lb 1 y)) (.int .u64 (lb 2 y)) (.int .u64 (lb 3 y)) := Row5.keep hb1_3 (by repeat (first | (with_reducible assumption) | (with_reducible refine Row5.alloc ?_ _) | (with_reducible refine Row5.drew ?_) | (with_reducible refine Row5.drewN ?_ _))); have DXf1_3 : DR wf1_3 s1 x := DR.keep hx1_3 DXf1_2; have DYf1_3 : DR wf1_3 s2 y := DR.keep hx1_3 hr1_2))
  have BW2 : Below w.heap.size w wf1_1 := btr (by repeat (first | (with_reducible exact BW1) | (with_reducible refine bal ?_ _) | (with_reducible refine Below.drew ?_) | (with_reducible refine bdn ?_ _))) hb1_1
  have X2 : Row5 wf1_1 w.heap.size (.bool true) (.int .u64 (lb 0 x)) (.int .u64 (lb 1 x)) (.int .u64 (lb 2 x)) (.int .u64 (lb 3 x)) := Row5.keep hb1_1 (by repeat (first | (with_reducible exact X1) | (with_reducible refine Row5.alloc ?_ _) | (with_reducible refine Row5.drew ?_)))
  have Y2 : Row5 wf1_1 (w.heap.size + 1) (.bool true) (.int .u64 (lb 0 y)) (.int .u64 (lb 1 y)) (.int .u64 (lb 2 y)) (.int .u64 (lb 3 y)) := Row5.keep hb1_1 (by repeat (first | (with_reducible exact Y1) | (with_reducible refine Row5.alloc ?_ _) | (with_reducible refine Row5.drew ?_)))
  clear X1 Y1 Xf1 Yf1 BW1
  have BW3 : Below w.heap.size w wf1_2 := btr (by repeat (first | (with_reducible exact BW2) | (with_reducible refine bal ?_ _) | (with_reducible refine Below.drew ?_) | (with_reducible refine bdn ?_ _))) hb1_2
  have X3 : Row5 wf1_2 w.heap.size (.bool true) (.int .u64 (lb 0 x)) (.int .u64 (lb 1 x)) (.int .u64 (lb 2 x)) (.int .u64 (lb 3 x)) := Row5.keep hb1_2 (by repeat (first | (with_reducible exact X2) | (with_reducible refine Row5.alloc ?_ _) | (with_reducible refine Row5.drew ?_)))
  have Y3 : Row5 wf1_2 (w.heap.size + 1) (.bool true) (.int .u64 (lb 0 y)) (.int .u64 (lb 1 y)) (.int .u64 (lb 2 y)) (.int .u64 (lb 3 y)) := Row5.keep hb1_2 (by repeat (first | (with_reducible exact Y2) | (with_reducible refine Row5.alloc ?_ _) | (with_reducible refine Row5.drew ?_)))
  clear X2 Y2 Xf2 Yf2 BW2
  have BW4 : Below w.heap.size w wf1_3 := btr (by repeat (first | (with_reducible exact BW3) | (with_reducible refine bal ?_ _) | (with_reducible refine Below.drew ?_) | (with_reducible refine bdn ?_ _))) hb1_3
  have X4 : Row5 wf1_3 w.heap.size (.bool true) (.int .u64 (lb 0 x)) (.int .u64 (lb 1 x)) (.int .u64 (lb 2 x)) (.int .u64 (lb 3 x)) := Row5.keep hb1_3 (by repeat (first | (with_reducible exact X3) | (with_reducible refine Row5.alloc ?_ _) | (with_reducible refine Row5.drew ?_)))
  have Y4 : Row5 wf1_3 (w.heap.size + 1) (.bool true) (.int .u64 (lb 0 y)) (.int .u64 (lb 1 y)) (.int .u64 (lb 2 y)) (.int .u64 (lb 3 y)) := Row5.keep hb1_3 (by repeat (first | (with_reducible exact Y3) | (with_reducible refine Row5.alloc ?_ _) | (with_reducible refine Row5.drew ?_)))
  clear X3 Y3 Xf3 Yf3 BW3
  have DX4 : DR wf1_3 s1 x := DXf1_3
  have DY4 : DR wf1_3 s2 y := DYf1_3
  clear hb1_1 hx1_1
  clear hb1_2 hx1_2
  clear hb1_3 hx1_3
  try clear DXf1_1
  try clear DYf1_1
  try clear DXf1_2
  try clear DYf1_2
  try clear DXf1_3
  try clear DYf1_3
  try clear hr1_1
  try clear hr1_2
  obtain ⟨Xc0, Xc1, Xc2, Xc3, Xc4⟩ := X4.parts
  obtain ⟨Xf0, Xf1, Xf2, Xf3, Xf4⟩ := X4.free
  go_wp2
  go_ret
  exact ⟨rfl, BW4⟩
set_option maxHeartbeats 2000000 in
set_option maxRecDepth 100000 in
theorem rstep_bad (g up : Bool) (x : Nat) (hx : x < 2 ^ 256) (w : World)
    (m1 : ∀ W, Calls Tryz.prog 30 #[I5 g x] W fun e w' => e = .returned (.bool false) ∧ Below W.heap.size W w') :
    Calls Tryz.prog 45 #[I5 g x, .bool up] w fun e w' => e = .returned (.tuple #[.agg #[.bool false, .int .u64 0, .int .u64 0, .int .u64 0, .int .u64 0], .bool false]) ∧ Below w.heap.size w w' := by
  unfold I5 at *
  have M1 := Lib.hid m1; have HX := Lib.hid hx; clear m1 hx
  go_enter Tryz.func45, Tryz.ntmps45
  go_wp2_with fail
  refine (M1.out _).mono ?_
  rintro e w1 ⟨rfl, hb⟩
  have BW1 : Below w.heap.size w w1 := btr (by repeat (first | (with_reducible exact Below.refl _ _) | (with_reducible refine bal ?_ _) | (with_reducible refine Below.drew ?_) | (with_reducible refine bdn ?_ _))) hb
  have X1 : Row5 w1 w.heap.size (.bool g) (.int .u64 (lb 0 x)) (.int .u64 (lb 1 x)) (.int .u64 (lb 2 x)) (.int .u64 (lb 3 x)) := Row5.keep hb (by repeat (first | (with_reducible exact Row5.new _ _ _ _ _ _) | ((with_reducible refine Row5.new' _ ?_ _ _ _ _ _); (simp; done)) | (with_reducible refine Row5.alloc ?_ _) | (with_reducible refine Row5.drew ?_)))
  have R1 : Row5 w1 (w.heap.size + 1) (.bool false) (.int .u64 0) (.int .u64 0) (.int .u64 0) (.int .u64 0) := Row5.keep hb (by repeat (first | (with_reducible exact Row5.new _ _ _ _ _ _) | ((with_reducible refine Row5.new' _ ?_ _ _ _ _ _); (simp; done)) | (with_reducible refine Row5.alloc ?_ _) | (with_reducible refine Row5.drew ?_)))
  clear hb
  obtain ⟨Rc0, Rc1, Rc2, Rc3, Rc4⟩ := R1.parts
  obtain ⟨Rf0, Rf1, Rf2, Rf3, Rf4⟩ := R1.free
  have lt_R := R1.lt
  go_wp2
  exact bodyPost_ret (v := .tuple #[.agg #[.bool false, .int .u64 0, .int .u64 0, .int .u64 0, .int .u64 0], .bool false]) (by simp [results, Tryz.results45, go_sem, Rc0, Rc1, Rc2, Rc3, Rc4]) rfl ⟨rfl, by repeat (first | (with_reducible exact BW1) | (with_reducible refine bal ?_ _) | (with_reducible refine Below.drew ?_) | (with_reducible refine bdn ?_ _) | ((with_reducible refine bsc ?_ ?_ _); rotate_left; (focus (simp only []; omega))))⟩
set_option maxHeartbeats 2000000 in
set_option maxRecDepth 100000 in
theorem rstep_zero (g up : Bool) (x : Nat) (hx : x < 2 ^ 256) (hz : (((digs x).length : Int) == 0) = true) (h : Bool) (y0 y1 y2 y3 : Int) (b : Bool) (kw : ∀ s' W, DR W s' 1 → Calls Tryz.prog 51 #[.bool (!up), s'] W fun e w' => e = .returned (.tuple #[.agg #[.bool h, .int .u64 y0, .int .u64 y1, .int .u64 y2, .int .u64 y3], .bool b]) ∧ Below W.heap.size W w') (w : World)
    (m1 : ∀ W, Calls Tryz.prog 30 #[I5 g x] W fun e w' => e = .returned (.bool true) ∧ Below W.heap.size W w') :
    Calls Tryz.prog 45 #[I5 g x, .bool up] w fun e w' => e = .returned (.tuple #[.agg #[.bool h, .int .u64 y0, .int .u64 y1, .int .u64 y2, .int .u64 y3], .bool b]) ∧ Below w.heap.size w w' := by
  unfold I5 at *
  have M1 := Lib.hid m1; have HX := Lib.hid hx; clear m1 hx
  have KW := Lib.hid kw; clear kw
  go_enter Tryz.func45, Tryz.ntmps45
  go_wp2_with fail
  refine (M1.out _).mono ?_
  rintro e w1 ⟨rfl, hb⟩
  have BW1 : Below w.heap.size w w1 := btr (by repeat (first | (with_reducible exact Below.refl _ _) | (with_reducible refine bal ?_ _) | (with_reducible refine Below.drew ?_) | (with_reducible refine bdn ?_ _))) hb
  have X1 : Row5 w1 w.heap.size (.bool g) (.int .u64 (lb 0 x)) (.int .u64 (lb 1 x)) (.int .u64 (lb 2 x)) (.int .u64 (lb 3 x)) := Row5.keep hb (by repeat (first | (with_reducible exact Row5.new _ _ _ _ _ _) | ((with_reducible refine Row5.new' _ ?_ _ _ _ _ _); (simp; done)) | (with_reducible refine Row5.alloc ?_ _) | (with_reducible refine Row5.drew ?_)))
  have R1 : Row5 w1 (w.heap.size + 1) (.bool false) (.int .u64 0) (.int .u64 0) (.int .u64 0) (.int .u64 0) := Row5.keep hb (by repeat (first | (with_reducible exact Row5.new _ _ _ _ _ _) | ((with_reducible refine Row5.new' _ ?_ _ _ _ _ _); (simp; done)) | (with_reducible refine Row5.alloc ?_ _) | (with_reducible refine Row5.drew ?_)))
  clear hb
  obtain ⟨Xc0, Xc1, Xc2, Xc3, Xc4⟩ := X1.parts
  obtain ⟨Xf0, Xf1, Xf2, Xf3, Xf4⟩ := X1.free
  go_wp2_with fail
  refine (rof x HX.out _).mono ?_
  rintro e w2 ⟨s1, rfl, hr, hb⟩
  have hbX : Below w1.heap.size w1 w2 := btr (by repeat (first | (with_reducible exact Below.refl _ _) | (with_reducible refine bal ?_ _) | (with_reducible refine Below.drew ?_) | (with_reducible refine bdn ?_ _))) hb
  clear hbX
  have DX2 : DR w2 s1 x := hr
  clear hr
  have BW2 : Below w.heap.size w w2 := btr (by repeat (first | (with_reducible exact BW1) | (with_reducible refine bal ?_ _) | (with_reducible refine Below.drew ?_) | (with_reducible refine bdn ?_ _))) hb
  have X2 : Row5 w2 w.heap.size (.bool g) (.int .u64 (lb 0 x)) (.int .u64 (lb 1 x)) (.int .u64 (lb 2 x)) (.int .u64 (lb 3 x)) := Row5.keep hb (by repeat (first | (with_reducible exact X1) | (with_reducible refine Row5.alloc ?_ _) | (with_reducible refine Row5.drew ?_)))
  have R2 : Row5 w2 (w.heap.size + 1) (.bool false) (.int .u64 0) (.int .u64 0) (.int .u64 0) (.int .u64 0) := Row5.keep hb (by repeat (first | (with_reducible exact R1) | (with_reducible refine Row5.alloc ?_ _) | (with_reducible refine Row5.drew ?_)))
  clear X1 R1
  clear BW1
  clear hb
  obtain ⟨A9, c9, rfl, _⟩ := DX2.form
  go_wp2_with fail
  refine (KW.out _ _ (DR.keep (by repeat (first | (with_reducible exact Below.refl _ _) | (with_reducible refine bal ?_ _) | (with_reducible refine Below.drew ?_) | (with_reducible refine bdn ?_ _))) (ten_new w2 1 (by decide) (by decide) 1 rfl))).mono ?_
  rintro e w3 ⟨rfl, hb⟩
  have hbX : Below w2.heap.size w2 w3 := btr (by repeat (first | (with_reducible exact Below.refl _ _) | (with_reducible refine bal ?_ _) | (with_reducible refine Below.drew ?_) | (with_reducible refine bdn ?_ _))) hb
  have DX3 : DR w3 (.slice A9 (digs x).length c9) x := DR.keep hbX DX2
  clear DX2
  clear hbX
  have BW3 : Below w.heap.size w w3 := btr (by repeat (first | (with_reducible exact BW2) | (with_reducible refine bal ?_ _) | (with_reducible refine Below.drew ?_) | (with_reducible refine bdn ?_ _))) hb
  have X3 : Row5 w3 w.heap.size (.bool g) (.int .u64 (lb 0 x)) (.int .u64 (lb 1 x)) (.int .u64 (lb 2 x)) (.int .u64 (lb 3 x)) := Row5.keep hb (by repeat (first | (with_reducible exact X2) | (with_reducible refine Row5.alloc ?_ _) | (with_reducible refine Row5.drew ?_)))
  have R3 : Row5 w3 (w.heap.size + 1) (.bool false) (.int .u64 0) (.int .u64 0) (.int .u64 0) (.int .u64 0) := Row5.keep hb (by repeat (first | (with_reducible exact R2) | (with_reducible refine Row5.alloc ?_ _) | (with_reducible refine Row5.drew ?_)))
  clear X2 R2
  clear BW2
  clear hb
  obtain ⟨Rc0, Rc1, Rc2, Rc3, Rc4⟩ := R3.parts
  obtain ⟨Rf0, Rf1, Rf2, Rf3, Rf4⟩ := R3.free
  have lt_R := R3.lt
  go_wp2
  exact bodyPost_ret (v := .tuple #[.agg #[.bool h, .int .u64 y0, .int .u64 y1, .int .u64 y2, .int .u64 y3], .bool b]) (by simp [results, Tryz.results45, go_sem, Rc0, Rc1, Rc2, Rc3, Rc4]) rfl ⟨rfl, by repeat (first | (with_reducible exact BW3) | (with_reducible refine bal ?_ _) | (with_reducible refine Below.drew ?_) | (with_reducible refine bdn ?_ _) | ((with_reducible refine bsc ?_ ?_ _); rotate_left; (focus (simp only []; omega))))⟩
set_option maxHeartbeats 2000000 in
set_option maxRecDepth 100000 in
theorem rstep_grow_false (x : Nat) (hx : x < 2 ^ 256) (hz : (((digs x).length : Int) == 0) = false) (h : Bool) (y0 y1 y2 y3 : Int) (b : Bool) (kw : ∀ s' W, DR W s' (x + 1) → Calls Tryz.prog 51 #[.bool false, s'] W fun e w' => e = .returned (.tuple #[.agg #[.bool h, .int .u64 y0, .int .u64 y1, .int .u64 y2, .int .u64 y3], .bool b]) ∧ Below W.heap.size W w') (w : World)
    (m1 : ∀ W, Calls Tryz.prog 30 #[I5 false x] W fun e w' => e = .returned (.bool true) ∧ Below W.heap.size W w') :
    Calls Tryz.prog 45 #[I5 false x, .bool true] w fun e w' => e = .returned (.tuple #[.agg #[.bool h, .int .u64 y0, .int .u64 y1, .int .u64 y2, .int .u64 y3], .bool b]) ∧ Below w.heap.size w w' := by
  unfold I5 at *
  have M1 := Lib.hid m1; have HX := Lib.hid hx; clear m1 hx
  have KW := Lib.hid kw; clear kw
  have L1 := Lib.hid (digs_of_eight HX.out)
  have L2 := Lib.hid (digs_of_eight (show 1 < 2 ^ 256 by decide))
  go_enter Tryz.func45, Tryz.ntmps45
  go_wp2_with fail
  refine (M1.out _).mono ?_
  rintro e w1 ⟨rfl, hb⟩
  have BW1 : Below w.heap.size w w1 := btr (by repeat (first | (with_reducible exact Below.refl _ _) | (with_reducible refine bal ?_ _) | (with_reducible refine Below.drew ?_) | (with_reducible refine bdn ?_ _))) hb
  have X1 : Row5 w1 w.heap.size (.bool false) (.int .u64 (lb 0 x)) (.int .u64 (lb 1 x)) (.int .u64 (lb 2 x)) (.int .u64 (lb 3 x)) := Row5.keep hb (by repeat (first | (with_reducible exact Row5.new _ _ _ _ _ _) | ((with_reducible refine Row5.new' _ ?_ _ _ _ _ _); (simp; done)) | (with_reducible refine Row5.alloc ?_ _) | (with_reducible refine Row5.drew ?_)))
  have R1 : Row5 w1 (w.heap.size + 1) (.bool false) (.int .u64 0) (.int .u64 0) (.int .u64 0) (.int .u64 0) := Row5.keep hb (by repeat (first | (with_reducible exact Row5.new _ _ _ _ _ _) | ((with_reducible refine Row5.new' _ ?_ _ _ _ _ _); (simp; done)) | (with_reducible refine Row5.alloc ?_ _) | (with_reducible refine Row5.drew ?_)))
  clear hb
  obtain ⟨Xc0, Xc1, Xc2, Xc3, Xc4⟩ := X1.parts
  obtain ⟨Xf0, Xf1, Xf2, Xf3, Xf4⟩ := X1.free
  go_wp2_with fail
  refine (rof x HX.out _).mono ?_
  rintro e w2 ⟨s1, rfl, hr, hb⟩
  have hbX : Below w1.heap.size w1 w2 := btr (by repeat (first | (with_reducible exact Below.refl _ _) | (with_reducible refine bal ?_ _) | (with_reducible refine Below.drew ?_) | (with_reducible refine bdn ?_ _))) hb
  clear hbX
  have DX2 : DR w2 s1 x := hr
  clear hr
  have BW2 : Below w.heap.size w w2 := btr (by repeat (first | (with_reducible exact BW1) | (with_reducible refine bal ?_ _) | (with_reducible refine Below.drew ?_) | (with_reducible refine bdn ?_ _))) hb
  have X2 : Row5 w2 w.heap.size (.bool false) (.int .u64 (lb 0 x)) (.int .u64 (lb 1 x)) (.int .u64 (lb 2 x)) (.int .u64 (lb 3 x)) := Row5.keep hb (by repeat (first | (with_reducible exact X1) | (with_reducible refine Row5.alloc ?_ _) | (with_reducible refine Row5.drew ?_)))
  have R2 : Row5 w2 (w.heap.size + 1) (.bool false) (.int .u64 0) (.int .u64 0) (.int .u64 0) (.int .u64 0) := Row5.keep hb (by repeat (first | (with_reducible exact R1) | (with_reducible refine Row5.alloc ?_ _) | (with_reducible refine Row5.drew ?_)))
  clear X1 R1
  clear BW1
  clear hb
  obtain ⟨A9, c9, rfl, _⟩ := DX2.form
  obtain ⟨Xc0, Xc1, Xc2, Xc3, Xc4⟩ := X2.parts
  obtain ⟨Xf0, Xf1, Xf2, Xf3, Xf4⟩ := X2.free
  go_upto_region 7 with (fail)
  go_name_world w3 hw3
  have BW3 : Below w.heap.size w w3 := by rw [← hw3]; repeat (first | (with_reducible exact BW2) | (with_reducible refine bal ?_ _) | (with_reducible refine Below.drew ?_) | (with_reducible refine bdn ?_ _))
  have hbX : Below w2.heap.size w2 w3 := by rw [← hw3]; repeat (first | (with_reducible exact Below.refl _ _) | (with_reducible refine bal ?_ _) | (with_reducible refine Below.drew ?_) | (with_reducible refine bdn ?_ _))
  have DX3 : DR w3 (.slice A9 (digs x).length c9) x := DR.keep hbX DX2
  clear hbX DX2
  have X3 : Row5 w3 w.heap.size (.bool false) (.int .u64 (lb 0 x)) (.int .u64 (lb 1 x)) (.int .u64 (lb 2 x)) (.int .u64 (lb 3 x)) := by rw [← hw3]; exact (by repeat (first | (with_reducible exact X2) | (with_reducible refine Row5.alloc ?_ _) | (with_reducible refine Row5.drew ?_)))
  have R3 : Row5 w3 (w.heap.size + 1) (.bool false) (.int .u64 0) (.int .u64 0) (.int .u64 0) (.int .u64 0) := by rw [← hw3]; exact (by repeat (first | (with_reducible exact R2) | (with_reducible refine Row5.alloc ?_ _) | (with_reducible refine Row5.drew ?_)))
  clear X2 R2
  clear BW2
  clear hw3
  have lt_X := X3.lt
  have lt_R := R3.lt
  obtain ⟨Xc0, Xc1, Xc2, Xc3, Xc4⟩ := X3.parts
  obtain ⟨Xf0, Xf1, Xf2, Xf3, Xf4⟩ := X3.free
  go_region_held3 (fun w' => w'.cell? ⟨w.heap.size, 0, none⟩ = some (.bool false) ∧ w'.cell? ⟨w.heap.size, 1, none⟩ = some (.int .u64 (lb 0 x)) ∧ w'.cell? ⟨w.heap.size, 2, none⟩ = some (.int .u64 (lb 1 x)) ∧ w'.cell? ⟨w.heap.size, 3, none⟩ = some (.int .u64 (lb 2 x)) ∧ w'.cell? ⟨w.heap.size, 4, none⟩ = some (.int .u64 (lb 3 x)))
    ((refine Row5.parts ?_; (repeat (first | (with_reducible assumption) | (with_reducible refine Row5.alloc ?_ _) | (with_reducible refine Row5.drew ?_) | (with_reducible refine Row5.drewN ?_ _) | ((with_reducible refine Row5.set ?_ ?_ _); rotate_left; (focus (omega))))); done))
    (first | (go_at_call 50; (with_reducible refine (radd (DR.keep (by repeat (first | (with_reducible exact Below.refl _ _) | (with_reducible refine bal ?_ _) | (with_reducible refine Below.drew ?_) | (with_reducible refine bdn ?_ _))) DX3) (DR.keep (by repeat (first | (with_reducible exact Below.refl _ _) | (with_reducible refine bal ?_ _) | (with_reducible refine Below.drew ?_) | (with_reducible refine bdn ?_ _))) (ten_new w3 1 (by decide) (by decide) 1 rfl)) L1.out L2.out).mono ?_); rintro e wa ⟨sa, rfl, hra, hba⟩; have ba : Below w.heap.size w wa := btr (by repeat (first | (with_reducible exact BW3) | (with_reducible refine bal ?_ _) | (with_reducible refine Below.drew ?_) | (with_reducible refine bdn ?_ _))) hba; have Xa : Row5 wa w.heap.size (.bool false) (.int .u64 (lb 0 x)) (.int .u64 (lb 1 x)) (.int .u64 (lb 2 x)) (.int .u64 (lb 3 x)) := Row5.keep hba (by repeat (first | (with_reducible exact X3) | (with_reducible refine Row5.alloc ?_ _) | (with_reducible refine Row5.drew ?_) | (with_reducible refine Row5.drewN ?_ _))); have Ra : Row5 wa (w.heap.size + 1) (.bool false) (.int .u64 0) (.int .u64 0) (.int .u64 0) (.int .u64 0) := Row5.keep hba (by repeat (first | (with_reducible exact R3) | (with_reducible refine Row5.alloc ?_ _) | (with_reducible refine Row5.drew ?_) | (with_reducible refine Row5.drewN ?_ _))); obtain ⟨xa0, xa1, xa2, xa3, xa4⟩ := Xa.parts) | (go_at_call 51; (with_reducible refine (KW.out _ _ (DR.keep (by repeat (first | (with_reducible exact Below.refl _ _) | (with_reducible refine bal ?_ _) | (with_reducible refine Below.drew ?_) | (with_reducible refine bdn ?_ _))) hra)).mono ?_); rintro e wb ⟨rfl, hbb⟩; have bb : Below w.heap.size w wb := btr (by repeat (first | (with_reducible exact ba) | (with_reducible refine bal ?_ _) | (with_reducible refine Below.drew ?_) | (with_reducible refine bdn ?_ _))) hbb; have Rb : Row5 wb (w.heap.size + 1) (.bool false) (.int .u64 0) (.int .u64 0) (.int .u64 0) (.int .u64 0) := Row5.keep hbb (by repeat (first | (with_reducible exact Ra) | (with_reducible refine Row5.alloc ?_ _) | (with_reducible refine Row5.drew ?_) | (with_reducible refine Row5.drewN ?_ _))); have Xb : Row5 wb w.heap.size (.bool false) (.int .u64 (lb 0 x)) (.int .u64 (lb 1 x)) (.int .u64 (lb 2 x)) (.int .u64 (lb 3 x)) := Row5.keep hbb (by repeat (first | (with_reducible exact Xa) | (with_reducible refine Row5.alloc ?_ _) | (with_reducible refine Row5.drew ?_) | (with_reducible refine Row5.drewN ?_ _))); obtain ⟨rb0, rb1, rb2, rb3, rb4⟩ := Rb.parts; obtain ⟨rg0, rg1, rg2, rg3, rg4⟩ := Rb.free; have ltb := Rb.lt; have ltc := Xb.lt; have nbx : ¬ w.heap.size + 1 = w.heap.size := by omega))
  all_goals
    go_wp2
    exact bodyPost_ret (v := .tuple #[.agg #[.bool h, .int .u64 y0, .int .u64 y1, .int .u64 y2, .int .u64 y3], .bool b]) (by simp [results, Tryz.results45, go_sem, rb0, rb1, rb2, rb3, rb4]) rfl ⟨rfl, by repeat (first | (with_reducible exact bb) | (with_reducible refine bal ?_ _) | (with_reducible refine Below.drew ?_) | (with_reducible refine bdn ?_ _) | ((with_reducible refine bsc ?_ ?_ _); rotate_left; (focus (simp only []; omega))))⟩
set_option maxHeartbeats 2000000 in
set_option maxRecDepth 100000 in
theorem rstep_grow_true (x : Nat) (hx : x < 2 ^ 256) (hz : (((digs x).length : Int) == 0) = false) (h : Bool) (y0 y1 y2 y3 : Int) (b : Bool) (kw : ∀ s' W, DR W s' (x + 1) → Calls Tryz.prog 51 #[.bool true, s'] W fun e w' => e = .returned (.tuple #[.agg #[.bool h, .int .u64 y0, .int .u64 y1, .int .u64 y2, .int .u64 y3], .bool b]) ∧ Below W.heap.size W w') (w : World)
    (m1 : ∀ W, Calls Tryz.prog 30 #[I5 true x] W fun e w' => e = .returned (.bool true) ∧ Below W.heap.size W w') :
    Calls Tryz.prog 45 #[I5 true x, .bool false] w fun e w' => e = .returned (.tuple #[.agg #[.bool h, .int .u64 y0, .int .u64 y1, .int .u64 y2, .int .u64 y3], .bool b]) ∧ Below w.heap.size w w' := by
  unfold I5 at *
  have M1 := Lib.hid m1; have HX := Lib.hid hx; clear m1 hx
  have KW := Lib.hid kw; clear kw
  have L1 := Lib.hid (digs_of_eight HX.out)
  have L2 := Lib.hid (digs_of_eight (show 1 < 2 ^ 256 by decide))
  go_enter Tryz.func45, Tryz.ntmps45
  go_wp2_with fail
  refine (M1.out _).mono ?_
  rintro e w1 ⟨rfl, hb⟩
  have BW1 : Below w.heap.size w w1 := btr (by repeat (first | (with_reducible exact Below.refl _ _) | (with_reducible refine bal ?_ _) | (with_reducible refine Below.drew ?_) | (with_reducible refine bdn ?_ _))) hb
  have X1 : Row5 w1 w.heap.size (.bool true) (.int .u64 (lb 0 x)) (.int .u64 (lb 1 x)) (.int .u64 (lb 2 x)) (.int .u64 (lb 3 x)) := Row5.keep hb (by repeat (first | (with_reducible exact Row5.new _ _ _ _ _ _) | ((with_reducible refine Row5.new' _ ?_ _ _ _ _ _); (simp; done)) | (with_reducible refine Row5.alloc ?_ _) | (with_reducible refine Row5.drew ?_)))
  have R1 : Row5 w1 (w.heap.size + 1) (.bool false) (.int .u64 0) (.int .u64 0) (.int .u64 0) (.int .u64 0) := Row5.keep hb (by repeat (first | (with_reducible exact Row5.new _ _ _ _ _ _) | ((with_reducible refine Row5.new' _ ?_ _ _ _ _ _); (simp; done)) | (with_reducible refine Row5.alloc ?_ _) | (with_reducible refine Row5.drew ?_)))
  clear hb
  obtain ⟨Xc0, Xc1, Xc2, Xc3, Xc4⟩ := X1.parts
  obtain ⟨Xf0, Xf1, Xf2, Xf3, Xf4⟩ := X1.free
  go_wp2_with fail
  refine (rof x HX.out _).mono ?_
  rintro e w2 ⟨s1, rfl, hr, hb⟩
  have hbX : Below w1.heap.size w1 w2 := btr (by repeat (first | (with_reducible exact Below.refl _ _) | (with_reducible refine bal ?_ _) | (with_reducible refine Below.drew ?_) | (with_reducible refine bdn ?_ _))) hb
  clear hbX
  have DX2 : DR w2 s1 x := hr
  clear hr
  have BW2 : Below w.heap.size w w2 := btr (by repeat (first | (with_reducible exact BW1) | (with_reducible refine bal ?_ _) | (with_reducible refine Below.drew ?_) | (with_reducible refine bdn ?_ _))) hb
  have X2 : Row5 w2 w.heap.size (.bool true) (.int .u64 (lb 0 x)) (.int .u64 (lb 1 x)) (.int .u64 (lb 2 x)) (.int .u64 (lb 3 x)) := Row5.keep hb (by repeat (first | (with_reducible exact X1) | (with_reducible refine Row5.alloc ?_ _) | (with_reducible refine Row5.drew ?_)))
  have R2 : Row5 w2 (w.heap.size + 1) (.bool false) (.int .u64 0) (.int .u64 0) (.int .u64 0) (.int .u64 0) := Row5.keep hb (by repeat (first | (with_reducible exact R1) | (with_reducible refine Row5.alloc ?_ _) | (with_reducible refine Row5.drew ?_)))
  clear X1 R1
  clear BW1
  clear hb
  obtain ⟨A9, c9, rfl, _⟩ := DX2.form
  obtain ⟨Xc0, Xc1, Xc2, Xc3, Xc4⟩ := X2.parts
  obtain ⟨Xf0, Xf1, Xf2, Xf3, Xf4⟩ := X2.free
  go_upto_region 7 with (fail)
  go_name_world w3 hw3
  have BW3 : Below w.heap.size w w3 := by rw [← hw3]; repeat (first | (with_reducible exact BW2) | (with_reducible refine bal ?_ _) | (with_reducible refine Below.drew ?_) | (with_reducible refine bdn ?_ _))
  have hbX : Below w2.heap.size w2 w3 := by rw [← hw3]; repeat (first | (with_reducible exact Below.refl _ _) | (with_reducible refine bal ?_ _) | (with_reducible refine Below.drew ?_) | (with_reducible refine bdn ?_ _))
  have DX3 : DR w3 (.slice A9 (digs x).length c9) x := DR.keep hbX DX2
  clear hbX DX2
  have X3 : Row5 w3 w.heap.size (.bool true) (.int .u64 (lb 0 x)) (.int .u64 (lb 1 x)) (.int .u64 (lb 2 x)) (.int .u64 (lb 3 x)) := by rw [← hw3]; exact (by repeat (first | (with_reducible exact X2) | (with_reducible refine Row5.alloc ?_ _) | (with_reducible refine Row5.drew ?_)))
  have R3 : Row5 w3 (w.heap.size + 1) (.bool false) (.int .u64 0) (.int .u64 0) (.int .u64 0) (.int .u64 0) := by rw [← hw3]; exact (by repeat (first | (with_reducible exact R2) | (with_reducible refine Row5.alloc ?_ _) | (with_reducible refine Row5.drew ?_)))
  clear X2 R2
  clear BW2
  clear hw3
  have lt_X := X3.lt
  have lt_R := R3.lt
  obtain ⟨Xc0, Xc1, Xc2, Xc3, Xc4⟩ := X3.parts
  obtain ⟨Xf0, Xf1, Xf2, Xf3, Xf4⟩ := X3.free
  go_region_held3 (fun w' => w'.cell? ⟨w.heap.size, 0, none⟩ = some (.bool true) ∧ w'.cell? ⟨w.heap.size, 1, none⟩ = some (.int .u64 (lb 0 x)) ∧ w'.cell? ⟨w.heap.size, 2, none⟩ = some (.int .u64 (lb 1 x)) ∧ w'.cell? ⟨w.heap.size, 3, none⟩ = some (.int .u64 (lb 2 x)) ∧ w'.cell? ⟨w.heap.size, 4, none⟩ = some (.int .u64 (lb 3 x)))
    ((refine Row5.parts ?_; (repeat (first | (with_reducible assumption) | (with_reducible refine Row5.alloc ?_ _) | (with_reducible refine Row5.drew ?_) | (with_reducible refine Row5.drewN ?_ _) | ((with_reducible refine Row5.set ?_ ?_ _); rotate_left; (focus (omega))))); done))
    (first | (go_at_call 50; (with_reducible refine (radd (DR.keep (by repeat (first | (with_reducible exact Below.refl _ _) | (with_reducible refine bal ?_ _) | (with_reducible refine Below.drew ?_) | (with_reducible refine bdn ?_ _))) DX3) (DR.keep (by repeat (first | (with_reducible exact Below.refl _ _) | (with_reducible refine bal ?_ _) | (with_reducible refine Below.drew ?_) | (with_reducible refine bdn ?_ _))) (ten_new w3 1 (by decide) (by decide) 1 rfl)) L1.out L2.out).mono ?_); rintro e wa ⟨sa, rfl, hra, hba⟩; have ba : Below w.heap.size w wa := btr (by repeat (first | (with_reducible exact BW3) | (with_reducible refine bal ?_ _) | (with_reducible refine Below.drew ?_) | (with_reducible refine bdn ?_ _))) hba; have Xa : Row5 wa w.heap.size (.bool true) (.int .u64 (lb 0 x)) (.int .u64 (lb 1 x)) (.int .u64 (lb 2 x)) (.int .u64 (lb 3 x)) := Row5.keep hba (by repeat (first | (with_reducible exact X3) | (with_reducible refine Row5.alloc ?_ _) | (with_reducible refine Row5.drew ?_) | (with_reducible refine Row5.drewN ?_ _))); have Ra : Row5 wa (w.heap.size + 1) (.bool false) (.int .u64 0) (.int .u64 0) (.int .u64 0) (.int .u64 0) := Row5.keep hba (by repeat (first | (with_reducible exact R3) | (with_reducible refine Row5.alloc ?_ _) | (with_reducible refine Row5.drew ?_) | (with_reducible refine Row5.drewN ?_ _))); obtain ⟨xa0, xa1, xa2, xa3, xa4⟩ := Xa.parts) | (go_at_call 51; (with_reducible refine (KW.out _ _ (DR.keep (by repeat (first | (with_reducible exact Below.refl _ _) | (with_reducible refine bal ?_ _) | (with_reducible refine Below.drew ?_) | (with_reducible refine bdn ?_ _))) hra)).mono ?_); rintro e wb ⟨rfl, hbb⟩; have bb : Below w.heap.size w wb := btr (by repeat (first | (with_reducible exact ba) | (with_reducible refine bal ?_ _) | (with_reducible refine Below.drew ?_) | (with_reducible refine bdn ?_ _))) hbb; have Rb : Row5 wb (w.heap.size + 1) (.bool false) (.int .u64 0) (.int .u64 0) (.int .u64 0) (.int .u64 0) := Row5.keep hbb (by repeat (first | (with_reducible exact Ra) | (with_reducible refine Row5.alloc ?_ _) | (with_reducible refine Row5.drew ?_) | (with_reducible refine Row5.drewN ?_ _))); have Xb : Row5 wb w.heap.size (.bool true) (.int .u64 (lb 0 x)) (.int .u64 (lb 1 x)) (.int .u64 (lb 2 x)) (.int .u64 (lb 3 x)) := Row5.keep hbb (by repeat (first | (with_reducible exact Xa) | (with_reducible refine Row5.alloc ?_ _) | (with_reducible refine Row5.drew ?_) | (with_reducible refine Row5.drewN ?_ _))); obtain ⟨rb0, rb1, rb2, rb3, rb4⟩ := Rb.parts; obtain ⟨rg0, rg1, rg2, rg3, rg4⟩ := Rb.free; have ltb := Rb.lt; have ltc := Xb.lt; have nbx : ¬ w.heap.size + 1 = w.heap.size := by omega))
  all_goals
    go_wp2
    exact bodyPost_ret (v := .tuple #[.agg #[.bool h, .int .u64 y0, .int .u64 y1, .int .u64 y2, .int .u64 y3], .bool b]) (by simp [results, Tryz.results45, go_sem, rb0, rb1, rb2, rb3, rb4]) rfl ⟨rfl, by repeat (first | (with_reducible exact bb) | (with_reducible refine bal ?_ _) | (with_reducible refine Below.drew ?_) | (with_reducible refine bdn ?_ _) | ((with_reducible refine bsc ?_ ?_ _); rotate_left; (focus (simp only []; omega))))⟩
set_option maxHeartbeats 2000000 in
set_option maxRecDepth 100000 in
theorem rstep_less_true (x : Nat) (hx : x < 2 ^ 256) (hz : (((digs x).length : Int) == 0) = false) (hle : 1 ≤ x) (h : Bool) (y0 y1 y2 y3 : Int) (b : Bool) (kw : ∀ s' W, DR W s' (x - 1) → Calls Tryz.prog 51 #[.bool true, s'] W fun e w' => e = .returned (.tuple #[.agg #[.bool h, .int .u64 y0, .int .u64 y1, .int .u64 y2, .int .u64 y3], .bool b]) ∧ Below W.heap.size W w') (w : World)
    (m1 : ∀ W, Calls Tryz.prog 30 #[I5 true x] W fun e w' => e = .returned (.bool true) ∧ Below W.heap.size W w') :
    Calls Tryz.prog 45 #[I5 true x, .bool true] w fun e w' => e = .returned (.tuple #[.agg #[.bool h, .int .u64 y0, .int .u64 y1, .int .u64 y2, .int .u64 y3], .bool b]) ∧ Below w.heap.size w w' := by
  unfold I5 at *
  have M1 := Lib.hid m1; have HX := Lib.hid hx; clear m1 hx
  have KW := Lib.hid kw; clear kw
  have L1 := Lib.hid (digs_of_eight HX.out)
  have L2 := Lib.hid (digs_of_eight (show 1 < 2 ^ 256 by decide))
  go_enter Tryz.func45, Tryz.ntmps45
  go_wp2_with fail
  refine (M1.out _).mono ?_
  rintro e w1 ⟨rfl, hb⟩
  have BW1 : Below w.heap.size w w1 := btr (by repeat (first | (with_reducible exact Below.refl _ _) | (with_reducible refine bal ?_ _) | (with_reducible refine Below.drew ?_) | (with_reducible refine bdn ?_ _))) hb
  have X1 : Row5 w1 w.heap.size (.bool true) (.int .u64 (lb 0 x)) (.int .u64 (lb 1 x)) (.int .u64 (lb 2 x)) (.int .u64 (lb 3 x)) := Row5.keep hb (by repeat (first | (with_reducible exact Row5.new _ _ _ _ _ _) | ((with_reducible refine Row5.new' _ ?_ _ _ _ _ _); (simp; done)) | (with_reducible refine Row5.alloc ?_ _) | (with_reducible refine Row5.drew ?_)))
  have R1 : Row5 w1 (w.heap.size + 1) (.bool false) (.int .u64 0) (.int .u64 0) (.int .u64 0) (.int .u64 0) := Row5.keep hb (by repeat (first | (with_reducible exact Row5.new _ _ _ _ _ _) | ((with_reducible refine Row5.new' _ ?_ _ _ _ _ _); (simp; done)) | (with_reducible refine Row5.alloc ?_ _) | (with_reducible refine Row5.drew ?_)))
  clear hb
  obtain ⟨Xc0, Xc1, Xc2, Xc3, Xc4⟩ := X1.parts
  obtain ⟨Xf0, Xf1, Xf2, Xf3, Xf4⟩ := X1.free
  go_wp2_with fail
  refine (rof x HX.out _).mono ?_
  rintro e w2 ⟨s1, rfl, hr, hb⟩
  have hbX : Below w1.heap.size w1 w2 := btr (by repeat (first | (with_reducible exact Below.refl _ _) | (with_reducible refine bal ?_ _) | (with_reducible refine Below.drew ?_) | (with_reducible refine bdn ?_ _))) hb
  clear hbX
  have DX2 : DR w2 s1 x := hr
  clear hr
  have BW2 : Below w.heap.size w w2 := btr (by repeat (first | (with_reducible exact BW1) | (with_reducible refine bal ?_ _) | (with_reducible refine Below.drew ?_) | (with_reducible refine bdn ?_ _))) hb
  have X2 : Row5 w2 w.heap.size (.bool true) (.int .u64 (lb 0 x)) (.int .u64 (lb 1 x)) (.int .u64 (lb 2 x)) (.int .u64 (lb 3 x)) := Row5.keep hb (by repeat (first | (with_reducible exact X1) | (with_reducible refine Row5.alloc ?_ _) | (with_reducible refine Row5.drew ?_)))
  have R2 : Row5 w2 (w.heap.size + 1) (.bool false) (.int .u64 0) (.int .u64 0) (.int .u64 0) (.int .u64 0) := Row5.keep hb (by repeat (first | (with_reducible exact R1) | (with_reducible refine Row5.alloc ?_ _) | (with_reducible refine Row5.drew ?_)))
  clear X1 R1
  clear BW1
  clear hb
  obtain ⟨A9, c9, rfl, _⟩ := DX2.form
  obtain ⟨Xc0, Xc1, Xc2, Xc3, Xc4⟩ := X2.parts
  obtain ⟨Xf0, Xf1, Xf2, Xf3, Xf4⟩ := X2.free
  go_upto_region 8 with (fail)
  go_name_world w3 hw3
  have BW3 : Below w.heap.size w w3 := by rw [← hw3]; repeat (first | (with_reducible exact BW2) | (with_reducible refine bal ?_ _) | (with_reducible refine Below.drew ?_) | (with_reducible refine bdn ?_ _))
  have hbX : Below w2.heap.size w2 w3 := by rw [← hw3]; repeat (first | (with_reducible exact Below.refl _ _) | (with_reducible refine bal ?_ _) | (with_reducible refine Below.drew ?_) | (with_reducible refine bdn ?_ _))
  have DX3 : DR w3 (.slice A9 (digs x).length c9) x := DR.keep hbX DX2
  clear hbX DX2
  have X3 : Row5 w3 w.heap.size (.bool true) (.int .u64 (lb 0 x)) (.int .u64 (lb 1 x)) (.int .u64 (lb 2 x)) (.int .u64 (lb 3 x)) := by rw [← hw3]; exact (by repeat (first | (with_reducible exact X2) | (with_reducible refine Row5.alloc ?_ _) | (with_reducible refine Row5.drew ?_)))
  have R3 : Row5 w3 (w.heap.size + 1) (.bool false) (.int .u64 0) (.int .u64 0) (.int .u64 0) (.int .u64 0) := by rw [← hw3]; exact (by repeat (first | (with_reducible exact R2) | (with_reducible refine Row5.alloc ?_ _) | (with_reducible refine Row5.drew ?_)))
  clear X2 R2
  clear BW2
  clear hw3
  have lt_X := X3.lt
  have lt_R := R3.lt
  obtain ⟨Xc0, Xc1, Xc2, Xc3, Xc4⟩ := X3.parts
  obtain ⟨Xf0, Xf1, Xf2, Xf3, Xf4⟩ := X3.free
  go_region_held3 (fun w' => w'.cell? ⟨w.heap.size, 0, none⟩ = some (.bool true) ∧ w'.cell? ⟨w.heap.size, 1, none⟩ = some (.int .u64 (lb 0 x)) ∧ w'.cell? ⟨w.heap.size, 2, none⟩ = some (.int .u64 (lb 1 x)) ∧ w'.cell? ⟨w.heap.size, 3, none⟩ = some (.int .u64 (lb 2 x)) ∧ w'.cell? ⟨w.heap.size, 4, none⟩ = some (.int .u64 (lb 3 x)))
    ((refine Row5.parts ?_; (repeat (first | (with_reducible assumption) | (with_reducible refine Row5.alloc ?_ _) | (with_reducible refine Row5.drew ?_) | (with_reducible refine Row5.drewN ?_ _) | ((with_reducible refine Row5.set ?_ ?_ _); rotate_left; (focus (omega))))); done))
    (first | (go_at_call 54; (with_reducible refine (rsub (DR.keep (by repeat (first | (with_reducible exact Below.refl _ _) | (with_reducible refine bal ?_ _) | (with_reducible refine Below.drew ?_) | (with_reducible refine bdn ?_ _))) DX3) (DR.keep (by repeat (first | (with_reducible exact Below.refl _ _) | (with_reducible refine bal ?_ _) | (with_reducible refine Below.drew ?_) | (with_reducible refine bdn ?_ _))) (ten_new w3 1 (by decide) (by decide) 1 rfl)) L1.out hle).mono ?_); rintro e wa ⟨sa, rfl, hra, hba⟩; have ba : Below w.heap.size w wa := btr (by repeat (first | (with_reducible exact BW3) | (with_reducible refine bal ?_ _) | (with_reducible refine Below.drew ?_) | (with_reducible refine bdn ?_ _))) hba; have Xa : Row5 wa w.heap.size (.bool true) (.int .u64 (lb 0 x)) (.int .u64 (lb 1 x)) (.int .u64 (lb 2 x)) (.int .u64 (lb 3 x)) := Row5.keep hba (by repeat (first | (with_reducible exact X3) | (with_reducible refine Row5.alloc ?_ _) | (with_reducible refine Row5.drew ?_) | (with_reducible refine Row5.drewN ?_ _))); have Ra : Row5 wa (w.heap.size + 1) (.bool false) (.int .u64 0) (.int .u64 0) (.int .u64 0) (.int .u64 0) := Row5.keep hba (by repeat (first | (with_reducible exact R3) | (with_reducible refine Row5.alloc ?_ _) | (with_reducible refine Row5.drew ?_) | (with_reducible refine Row5.drewN ?_ _))); obtain ⟨xa0, xa1, xa2, xa3, xa4⟩ := Xa.parts) | (go_at_call 51; (with_reducible refine (KW.out _ _ (DR.keep (by repeat (first | (with_reducible exact Below.refl _ _) | (with_reducible refine bal ?_ _) | (with_reducible refine Below.drew ?_) | (with_reducible refine bdn ?_ _))) hra)).mono ?_); rintro e wb ⟨rfl, hbb⟩; have bb : Below w.heap.size w wb := btr (by repeat (first | (with_reducible exact ba) | (with_reducible refine bal ?_ _) | (with_reducible refine Below.drew ?_) | (with_reducible refine bdn ?_ _))) hbb; have Rb : Row5 wb (w.heap.size + 1) (.bool false) (.int .u64 0) (.int .u64 0) (.int .u64 0) (.int .u64 0) := Row5.keep hbb (by repeat (first | (with_reducible exact Ra) | (with_reducible refine Row5.alloc ?_ _) | (with_reducible refine Row5.drew ?_) | (with_reducible refine Row5.drewN ?_ _))); have Xb : Row5 wb w.heap.size (.bool true) (.int .u64 (lb 0 x)) (.int .u64 (lb 1 x)) (.int .u64 (lb 2 x)) (.int .u64 (lb 3 x)) := Row5.keep hbb (by repeat (first | (with_reducible exact Xa) | (with_reducible refine Row5.alloc ?_ _) | (with_reducible refine Row5.drew ?_) | (with_reducible refine Row5.drewN ?_ _))); obtain ⟨rb0, rb1, rb2, rb3, rb4⟩ := Rb.parts; obtain ⟨rg0, rg1, rg2, rg3, rg4⟩ := Rb.free; have ltb := Rb.lt; have ltc := Xb.lt; have nbx : ¬ w.heap.size + 1 = w.heap.size := by omega))
  all_goals
    go_wp2
    exact bodyPost_ret (v := .tuple #[.agg #[.bool h, .int .u64 y0, .int .u64 y1, .int .u64 y2, .int .u64 y3], .bool b]) (by simp [results, Tryz.results45, go_sem, rb0, rb1, rb2, rb3, rb4]) rfl ⟨rfl, by repeat (first | (with_reducible exact bb) | (with_reducible refine bal ?_ _) | (with_reducible refine Below.drew ?_) | (with_reducible refine bdn ?_ _) | ((with_reducible refine bsc ?_ ?_ _); rotate_left; (focus (simp only []; omega))))⟩
set_option maxHeartbeats 2000000 in
set_option maxRecDepth 100000 in
theorem rstep_less_false (x : Nat) (hx : x < 2 ^ 256) (hz : (((digs x).length : Int) == 0) = false) (hle : 1 ≤ x) (h : Bool) (y0 y1 y2 y3 : Int) (b : Bool) (kw : ∀ s' W, DR W s' (x - 1) → Calls Tryz.prog 51 #[.bool false, s'] W fun e w' => e = .returned (.tuple #[.agg #[.bool h, .int .u64 y0, .int .u64 y1, .int .u64 y2, .int .u64 y3], .bool b]) ∧ Below W.heap.size W w') (w : World)
    (m1 : ∀ W, Calls Tryz.prog 30 #[I5 false x] W fun e w' => e = .returned (.bool true) ∧ Below W.heap.size W w') :
    Calls Tryz.prog 45 #[I5 false x, .bool false] w fun e w' => e = .returned (.tuple #[.agg #[.bool h, .int .u64 y0, .int .u64 y1, .int .u64 y2, .int .u64 y3], .bool b]) ∧ Below w.heap.size w w' := by
  unfold I5 at *
  have M1 := Lib.hid m1; have HX := Lib.hid hx; clear m1 hx
  have KW := Lib.hid kw; clear kw
  have L1 := Lib.hid (digs_of_eight HX.out)
  have L2 := Lib.hid (digs_of_eight (show 1 < 2 ^ 256 by decide))
  go_enter Tryz.func45, Tryz.ntmps45
  go_wp2_with fail
  refine (M1.out _).mono ?_
  rintro e w1 ⟨rfl, hb⟩
  have BW1 : Below w.heap.size w w1 := btr (by repeat (first | (with_reducible exact Below.refl _ _) | (with_reducible refine bal ?_ _) | (with_reducible refine Below.drew ?_) | (with_reducible refine bdn ?_ _))) hb
  have X1 : Row5 w1 w.heap.size (.bool false) (.int .u64 (lb 0 x)) (.int .u64 (lb 1 x)) (.int .u64 (lb 2 x)) (.int .u64 (lb 3 x)) := Row5.keep hb (by repeat (first | (with_reducible exact Row5.new _ _ _ _ _ _) | ((with_reducible refine Row5.new' _ ?_ _ _ _ _ _); (simp; done)) | (with_reducible refine Row5.alloc ?_ _) | (with_reducible refine Row5.drew ?_)))
  have R1 : Row5 w1 (w.heap.size + 1) (.bool false) (.int .u64 0) (.int .u64 0) (.int .u64 0) (.int .u64 0) := Row5.keep hb (by repeat (first | (with_reducible exact Row5.new _ _ _ _ _ _) | ((with_reducible refine Row5.new' _ ?_ _ _ _ _ _); (simp; done)) | (with_reducible refine Row5.alloc ?_ _) | (with_reducible refine Row5.drew ?_)))
  clear hb
  obtain ⟨Xc0, Xc1, Xc2, Xc3, Xc4⟩ := X1.parts
  obtain ⟨Xf0, Xf1, Xf2, Xf3, Xf4⟩ := X1.free
  go_wp2_with fail
  refine (rof x HX.out _).mono ?_
  rintro e w2 ⟨s1, rfl, hr, hb⟩
  have hbX : Below w1.heap.size w1 w2 := btr (by repeat (first | (with_reducible exact Below.refl _ _) | (with_reducible refine bal ?_ _) | (with_reducible refine Below.drew ?_) | (with_reducible refine bdn ?_ _))) hb
  clear hbX
  have DX2 : DR w2 s1 x := hr
  clear hr
  have BW2 : Below w.heap.size w w2 := btr (by repeat (first | (with_reducible exact BW1) | (with_reducible refine bal ?_ _) | (with_reducible refine Below.drew ?_) | (with_reducible refine bdn ?_ _))) hb
  have X2 : Row5 w2 w.heap.size (.bool false) (.int .u64 (lb 0 x)) (.int .u64 (lb 1 x)) (.int .u64 (lb 2 x)) (.int .u64 (lb 3 x)) := Row5.keep hb (by repeat (first | (with_reducible exact X1) | (with_reducible refine Row5.alloc ?_ _) | (with_reducible refine Row5.drew ?_)))
  have R2 : Row5 w2 (w.heap.size + 1) (.bool false) (.int .u64 0) (.int .u64 0) (.int .u64 0) (.int .u64 0) := Row5.keep hb (by repeat (first | (with_reducible exact R1) | (with_reducible refine Row5.alloc ?_ _) | (with_reducible refine Row5.drew ?_)))
  clear X1 R1
  clear BW1
  clear hb
  obtain ⟨A9, c9, rfl, _⟩ := DX2.form
  obtain ⟨Xc0, Xc1, Xc2, Xc3, Xc4⟩ := X2.parts
  obtain ⟨Xf0, Xf1, Xf2, Xf3, Xf4⟩ := X2.free
  go_upto_region 8 with (fail)
  go_name_world w3 hw3
  have BW3 : Below w.heap.size w w3 := by rw [← hw3]; repeat (first | (with_reducible exact BW2) | (with_reducible refine bal ?_ _) | (with_reducible refine Below.drew ?_) | (with_reducible refine bdn ?_ _))
  have hbX : Below w2.heap.size w2 w3 := by rw [← hw3]; repeat (first | (with_reducible exact Below.refl _ _) | (with_reducible refine bal ?_ _) | (with_reducible refine Below.drew ?_) | (with_reducible refine bdn ?_ _))
  have DX3 : DR w3 (.slice A9 (digs x).length c9) x := DR.keep hbX DX2
  clear hbX DX2
  have X3 : Row5 w3 w.heap.size (.bool false) (.int .u64 (lb 0 x)) (.int .u64 (lb 1 x)) (.int .u64 (lb 2 x)) (.int .u64 (lb 3 x)) := by rw [← hw3]; exact (by repeat (first | (with_reducible exact X2) | (with_reducible refine Row5.alloc ?_ _) | (with_reducible refine Row5.drew ?_)))
  have R3 : Row5 w3 (w.heap.size + 1) (.bool false) (.int .u64 0) (.int .u64 0) (.int .u64 0) (.int .u64 0) := by rw [← hw3]; exact (by repeat (first | (with_reducible exact R2) | (with_reducible refine Row5.alloc ?_ _) | (with_reducible refine Row5.drew ?_)))
  clear X2 R2
  clear BW2
  clear hw3
  have lt_X := X3.lt
  have lt_R := R3.lt
  obtain ⟨Xc0, Xc1, Xc2, Xc3, Xc4⟩ := X3.parts
  obtain ⟨Xf0, Xf1, Xf2, Xf3, Xf4⟩ := X3.free
  go_region_held3 (fun w' => w'.cell? ⟨w.heap.size, 0, none⟩ = some (.bool false) ∧ w'.cell? ⟨w.heap.size, 1, none⟩ = some (.int .u64 (lb 0 x)) ∧ w'.cell? ⟨w.heap.size, 2, none⟩ = some (.int .u64 (lb 1 x)) ∧ w'.cell? ⟨w.heap.size, 3, none⟩ = some (.int .u64 (lb 2 x)) ∧ w'.cell? ⟨w.heap.size, 4, none⟩ = some (.int .u64 (lb 3 x)))
    ((refine Row5.parts ?_; (repeat (first | (with_reducible assumption) | (with_reducible refine Row5.alloc ?_ _) | (with_reducible refine Row5.drew ?_) | (with_reducible refine Row5.drewN ?_ _) | ((with_reducible refine Row5.set ?_ ?_ _); rotate_left; (focus (omega))))); done))
    (first | (go_at_call 54; (with_reducible refine (rsub (DR.keep (by repeat (first | (with_reducible exact Below.refl _ _) | (with_reducible refine bal ?_ _) | (with_reducible refine Below.drew ?_) | (with_reducible refine bdn ?_ _))) DX3) (DR.keep (by repeat (first | (with_reducible exact Below.refl _ _) | (with_reducible refine bal ?_ _) | (with_reducible refine Below.drew ?_) | (with_reducible refine bdn ?_ _))) (ten_new w3 1 (by decide) (by decide) 1 rfl)) L1.out hle).mono ?_); rintro e wa ⟨sa, rfl, hra, hba⟩; have ba : Below w.heap.size w wa := btr (by repeat (first | (with_reducible exact BW3) | (with_reducible refine bal ?_ _) | (with_reducible refine Below.drew ?_) | (with_reducible refine bdn ?_ _))) hba; have Xa : Row5 wa w.heap.size (.bool false) (.int .u64 (lb 0 x)) (.int .u64 (lb 1 x)) (.int .u64 (lb 2 x)) (.int .u64 (lb 3 x)) := Row5.keep hba (by repeat (first | (with_reducible exact X3) | (with_reducible refine Row5.alloc ?_ _) | (with_reducible refine Row5.drew ?_) | (with_reducible refine Row5.drewN ?_ _))); have Ra : Row5 wa (w.heap.size + 1) (.bool false) (.int .u64 0) (.int .u64 0) (.int .u64 0) (.int .u64 0) := Row5.keep hba (by repeat (first | (with_reducible exact R3) | (with_reducible refine Row5.alloc ?_ _) | (with_reducible refine Row5.drew ?_) | (with_reducible refine Row5.drewN ?_ _))); obtain ⟨xa0, xa1, xa2, xa3, xa4⟩ := Xa.parts) | (go_at_call 51; (with_reducible refine (KW.out _ _ (DR.keep (by repeat (first | (with_reducible exact Below.refl _ _) | (with_reducible refine bal ?_ _) | (with_reducible refine Below.drew ?_) | (with_reducible refine bdn ?_ _))) hra)).mono ?_); rintro e wb ⟨rfl, hbb⟩; have bb : Below w.heap.size w wb := btr (by repeat (first | (with_reducible exact ba) | (with_reducible refine bal ?_ _) | (with_reducible refine Below.drew ?_) | (with_reducible refine bdn ?_ _))) hbb; have Rb : Row5 wb (w.heap.size + 1) (.bool false) (.int .u64 0) (.int .u64 0) (.int .u64 0) (.int .u64 0) := Row5.keep hbb (by repeat (first | (with_reducible exact Ra) | (with_reducible refine Row5.alloc ?_ _) | (with_reducible refine Row5.drew ?_) | (with_reducible refine Row5.drewN ?_ _))); have Xb : Row5 wb w.heap.size (.bool false) (.int .u64 (lb 0 x)) (.int .u64 (lb 1 x)) (.int .u64 (lb 2 x)) (.int .u64 (lb 3 x)) := Row5.keep hbb (by repeat (first | (with_reducible exact Xa) | (with_reducible refine Row5.alloc ?_ _) | (with_reducible refine Row5.drew ?_) | (with_reducible refine Row5.drewN ?_ _))); obtain ⟨rb0, rb1, rb2, rb3, rb4⟩ := Rb.parts; obtain ⟨rg0, rg1, rg2, rg3, rg4⟩ := Rb.free; have ltb := Rb.lt; have ltc := Xb.lt; have nbx : ¬ w.heap.size + 1 = w.heap.size := by omega))
  all_goals
    go_wp2
    exact bodyPost_ret (v := .tuple #[.agg #[.bool h, .int .u64 y0, .int .u64 y1, .int .u64 y2, .int .u64 y3], .bool b]) (by simp [results, Tryz.results45, go_sem, rb0, rb1, rb2, rb3, rb4]) rfl ⟨rfl, by repeat (first | (with_reducible exact bb) | (with_reducible refine bal ?_ _) | (with_reducible refine Below.drew ?_) | (with_reducible refine bdn ?_ _) | ((with_reducible refine bsc ?_ ?_ _); rotate_left; (focus (simp only []; omega))))⟩
end Go.Proofs.YtjlgiejggcbgbaaGreatDoor
end
section
namespace Go.Proofs.YtjlgiejggcbgbaaGreatDoor
open Go.RowKit Go.Shelf
theorem Iz_pos (v : Nat) (h : v < 18446744073709551616) : Iz (v : Int) = .agg #[.bool false, .int .u64 (v : Int), .int .u64 0, .int .u64 0, .int .u64 0] := by
  rw [Iz_nat]
  unfold I5
  obtain ⟨l0, l1, l2, l3⟩ := lb_small (v := (v : Int)) (by omega) (by omega)
  rw [Int.natAbs_natCast] at l0 l1 l2 l3
  rw [l0, l1, l2, l3]
theorem Iz_minus (v : Nat) (h0 : v ≠ 0) (h : v < 18446744073709551616) : Iz (-(v : Int)) = .agg #[.bool true, .int .u64 (v : Int), .int .u64 0, .int .u64 0, .int .u64 0] := by
  rw [Iz_neg h0]
  unfold I5
  obtain ⟨l0, l1, l2, l3⟩ := lb_small (v := (v : Int)) (by omega) (by omega)
  rw [Int.natAbs_natCast] at l0 l1 l2 l3
  rw [l0, l1, l2, l3]

end Go.Proofs.YtjlgiejggcbgbaaGreatDoor
end
section
namespace Go.Proofs.YtjlgiejggcbgbaaGreatDoor
open Go.RowKit Go.Shelf
open Go.Sort (grow)
attribute [local go_sem ↓] eql_nat neq_nat eql_int5 neq_int5

end Go.Proofs.YtjlgiejggcbgbaaGreatDoor
end
section
namespace Go.Proofs.YtjlgiejggcbgbaaGreatDoor
open Go.RowKit Go.Shelf

theorem rmay_good (g : Bool) (x : Nat) (hx : x < 2 ^ 256) (h : ¬ (g = true ∧ x = 0)) (w : World) :
    Calls Tryz.prog 30 #[I5 g x] w fun e w' => e = .returned (.bool true) ∧ Below w.heap.size w w' := by
  cases g with
  | false => exact rmay_pos _ _ _ _ w
  | true =>
    have hm := rmay_neg (lb 0 x) (lb 1 x) (lb 2 x) (lb 3 x) w
    rw [show eq4 (lb 0 x) (lb 1 x) (lb 2 x) (lb 3 x) 0 0 0 0 = false from (eq4_of x 0 hx (by decide)).trans (decide_eq_false (fun h0 => h ⟨rfl, h0⟩))] at hm
    exact hm
theorem rmay_bad (w : World) :
    Calls Tryz.prog 30 #[I5 true 0] w fun e w' => e = .returned (.bool false) ∧ Below w.heap.size w w' := by
  have hm := rmay_neg 0 0 0 0 w
  rw [show eq4 0 0 0 0 0 0 0 0 = true by decide] at hm
  unfold I5
  simp only [lb_zero]
  exact hm
theorem znum_form (t : Int) : ∃ h y, y < 2 ^ 256 ∧ Znum t = .tuple #[I5 h y, .bool (decide (t.natAbs < 2 ^ 256))] := by
  by_cases ht : t.natAbs < 2 ^ 256
  · rw [decide_eq_true ht, Znum_of ht]; exact ⟨_, _, ht, rfl⟩
  · rw [decide_eq_false ht, Znum_Z5 ht]; exact ⟨false, 0, by decide, by unfold I5; simp only [lb_zero]⟩
theorem rwh_z {s : Value} {v : Nat} (g : Bool) (t : Int) (ht : t = if g then -(v : Int) else v) {w : World} (h : DR w s v) :
    Calls Tryz.prog 51 #[.bool g, s] w fun e w' => e = .returned (Znum t) ∧ Below w.heap.size w w' := by
  have hn : t.natAbs = v := by rw [ht]; split <;> omega
  have := rwh g h
  rw [← ht] at this
  unfold Znum
  rw [hn]
  exact this
theorem rstep_z (z : Int) (hz : z.natAbs < 2 ^ 256) (up : Bool) (t : Int) (ht : t = if up then z + 1 else z - 1) (w : World) :
    Calls Tryz.prog 45 #[Iz z, .bool up] w fun e w' => e = .returned (Znum t) ∧ Below w.heap.size w w' := by
  obtain ⟨h, y, hy, hf⟩ := znum_form t
  have key : ∀ (g : Bool) (v : Nat), t = (if g then -(v : Int) else v) → ∀ s' W, DR W s' v → Calls Tryz.prog 51 #[.bool g, s'] W fun e w' => e = .returned (.tuple #[I5 h y, .bool (decide (t.natAbs < 2 ^ 256))]) ∧ Below W.heap.size W w' := fun g v e s' W hD => by
    have := rwh_z g t e hD
    rw [hf] at this
    exact this
  rw [hf]
  have hl : ∀ n : Nat, n ≠ 0 → (((digs n).length : Int) == 0) = false := fun n hn => by have := digs_some hn; rw [beq_eq_false_iff_ne]; omega
  rcases sgn z with ⟨n, rfl⟩ | ⟨n, hn, rfl⟩
  · have hn2 : n < 2 ^ 256 := by omega
    have hm := fun W => rmay_good false n hn2 (fun h => by cases h.1) W
    rw [Iz_nat]
    by_cases h0 : n = 0
    · subst h0
      have hd : (((digs 0).length : Int) == 0) = true := by rw [digs_zero]; rfl
      exact rstep_zero false up 0 (by decide) hd h _ _ _ _ _ (key (!up) 1 (by rw [ht]; cases up <;> rfl)) w hm
    · cases up with
      | true => exact rstep_grow_false n hn2 (hl n h0) h _ _ _ _ _ (key false (n + 1) (by rw [ht]; simp)) w hm
      | false => exact rstep_less_false n hn2 (hl n h0) (by omega) h _ _ _ _ _ (key false (n - 1) (by rw [ht]; simp only [Bool.false_eq_true, if_false]; omega)) w hm
  · have hn2 : n < 2 ^ 256 := by omega
    have hm := fun W => rmay_good true n hn2 (fun h => hn h.2) W
    rw [Iz_neg hn]
    cases up with
    | false => exact rstep_grow_true n hn2 (hl n hn) h _ _ _ _ _ (key true (n + 1) (by rw [ht]; simp only [Bool.false_eq_true, if_false, if_true]; omega)) w hm
    | true => exact rstep_less_true n hn2 (hl n hn) (by omega) h _ _ _ _ _ (key true (n - 1) (by rw [ht]; simp only [if_true]; omega)) w hm
theorem rcv_cmpv (x y : Nat) : rcv x y = cmpv (x : Int) (y : Int) := by
  unfold cmpv rcv
  by_cases h : x < y
  · rw [if_pos h, if_pos (by omega)]
  · by_cases h2 : y < x
    · rw [if_neg h, if_pos h2, if_neg (by omega), if_neg (by omega)]
    · rw [if_neg h, if_neg h2, if_neg (by omega), if_pos (by omega)]
theorem cmpv_neg (x y : Int) : cmpv (-x) (-y) = -cmpv x y := by
  unfold cmpv
  split <;> split <;> (try split) <;> (try split) <;> omega
theorem rcmpint_z (y z : Int) (hy : y.natAbs < 2 ^ 256) (hz : z.natAbs < 2 ^ 256) (w : World) :
    Calls Tryz.prog 23 #[Iz y, Iz z] w fun e w' => e = .returned (.int .i64 (cmpv y z)) ∧ Below w.heap.size w w' := by
  rcases sgn y with ⟨n, rfl⟩ | ⟨n, hn, rfl⟩ <;> rcases sgn z with ⟨m, rfl⟩ | ⟨m, hm, rfl⟩
  · rw [Iz_nat, Iz_nat]
    exact rcmpint_ff n m (by omega) (by omega) _ (rcv_cmpv n m) w
  · rw [Iz_nat, Iz_neg hm, show cmpv (n : Int) (-(m : Int)) = 1 from by unfold cmpv; rw [if_neg (by omega), if_neg (by omega)]]
    exact rcmpint_ft n m w
  · rw [Iz_nat, Iz_neg hn, show cmpv (-(n : Int)) (m : Int) = -1 from by unfold cmpv; rw [if_pos (by omega)]]
    exact rcmpint_tf n m w
  · rw [Iz_neg hn, Iz_neg hm, cmpv_neg]
    refine rcmpint_tt n m (by omega) (by omega) _ _ (rcv_cmpv n m) ?_ w
    have : -1 ≤ cmpv (n : Int) (m : Int) ∧ cmpv (n : Int) (m : Int) ≤ 1 := by unfold cmpv; split <;> (try split) <;> omega
    rw [Go.IntWalk.i64_in _ (by omega)]
theorem rofint_z (v : Int) (h0 : -9223372036854775808 ≤ v) (h1 : v < 9223372036854775808) (w : World) :
    Calls Tryz.prog 11 #[.int .i64 v] w fun e w' => e = .returned (Iz v) ∧ Below w.heap.size w w' := by
  rcases sgn v with ⟨n, rfl⟩ | ⟨n, hn, rfl⟩
  · rw [Iz_pos n (by omega)]
    exact rofint_pos _ (by omega) h1 w
  · rw [Iz_minus n hn (by omega)]
    have := rofint_neg (-(n : Int)) _ _ (by omega) h0 rfl rfl w
    rw [Int.neg_neg] at this
    exact this
theorem znt_form (k : IntKind) (z : Int) (b : Bool) : Znt k z b = .tuple #[.int k (if b then z else 0), .bool b] := by
  unfold Znt; cases b <;> rfl
theorem eq5_own (c : Bool) (v : Nat) (h : v < 2 ^ 256) : eq5 c (lb 0 v) (lb 1 v) (lb 2 v) (lb 3 v) c (lb 0 v) (lb 1 v) (lb 2 v) (lb 3 v) = true := by
  rw [eq5_int c c v v h h]; exact decide_eq_true ⟨rfl, rfl⟩
end Go.Proofs.YtjlgiejggcbgbaaGreatDoor
end
