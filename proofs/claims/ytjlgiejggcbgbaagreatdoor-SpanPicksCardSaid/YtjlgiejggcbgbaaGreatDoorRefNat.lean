/-
  The reference's D.Nat: the contract, for all numbers of at most 1000 digits of 32 bits.
-/
import Derived.Test.YtjlgiejggcbgbaaGreatDoorRefOf
import Derived.Test.YtjlgiejggcbgbaaGreatDoorRefCmp
import Derived.Test.YtjlgiejggcbgbaaGreatDoorNatShMath
import Derived.BigRegion
import Derived.RegionTactic
namespace Go.Proofs.YtjlgiejggcbgbaaGreatDoor
open Go.RowKit Go.Shelf

/-- A number's four words lie in a block. -/
def RowN (W : World) (g z : Nat) : Prop := Row4 W g (.int .u64 (lb 0 z)) (.int .u64 (lb 1 z)) (.int .u64 (lb 2 z)) (.int .u64 (lb 3 z))
theorem lb_nat (i z : Nat) : lb i z = ((z / 2 ^ (64 * i) % 18446744073709551616 : Nat) : Int) := by unfold lb; rfl
/-- One digit more turns one word. -/
theorem word_step {x k q r : Nat} (hq : q = k / 2) (hr : r = k % 2) : x % 2 ^ (32 * (k + 1)) / 2 ^ (64 * q) % 18446744073709551616 = x % 2 ^ (32 * k) / 2 ^ (64 * q) % 18446744073709551616 + (x / 2 ^ (32 * k) % 4294967296) * 2 ^ (32 * r) := by
  rw [mod_step]
  have hk : 32 * k = 64 * q + 32 * r := by omega
  have hr2 : r = 0 ∨ r = 1 := by omega
  have hd : x / 2 ^ (32 * k) % 4294967296 < 4294967296 := Nat.mod_lt _ (by decide)
  have hz : x % 2 ^ (32 * k) < 2 ^ (32 * k) := Nat.mod_lt _ (Nat.two_pow_pos _)
  generalize x / 2 ^ (32 * k) % 4294967296 = d at *
  generalize x % 2 ^ (32 * k) = z at *
  rw [hk, Nat.pow_add] at hz ⊢
  have hp := Nat.two_pow_pos (64 * q)
  rw [Nat.mul_assoc, Nat.add_mul_div_left _ _ hp]
  have hz2 : z / 2 ^ (64 * q) < 2 ^ (32 * r) := Nat.div_lt_of_lt_mul hz
  generalize z / 2 ^ (64 * q) = y at *
  rcases hr2 with rfl | rfl
  · simp only [Nat.mul_zero, Nat.pow_zero, Nat.one_mul, Nat.mul_one] at *
    omega
  · have e : (2 : Nat) ^ (32 * 1) = 4294967296 := by decide
    rw [e] at *
    omega
theorem word_same {x k i : Nat} (hi : i ≠ k / 2) : x % 2 ^ (32 * (k + 1)) / 2 ^ (64 * i) % 18446744073709551616 = x % 2 ^ (32 * k) / 2 ^ (64 * i) % 18446744073709551616 := by
  rcases Nat.lt_or_ge i (k / 2) with h | h
  · rw [mod_step]
    generalize x / 2 ^ (32 * k) % 4294967296 = d
    have e : 2 ^ (32 * k) * d = 2 ^ (64 * i) * (18446744073709551616 * (2 ^ (32 * k - 64 * i - 64) * d)) := by
      rw [show (18446744073709551616 : Nat) = 2 ^ 64 from by decide, ← Nat.mul_assoc, ← Nat.mul_assoc, ← Nat.pow_add, ← Nat.pow_add]
      congr 2
      omega
    rw [e, Nat.add_mul_div_left _ _ (Nat.two_pow_pos _), Nat.add_mul_mod_self_left]
  · have h1 : x % 2 ^ (32 * (k + 1)) < 2 ^ (64 * i) := Nat.lt_of_lt_of_le (Nat.mod_lt _ (Nat.two_pow_pos _)) (Nat.pow_le_pow_right (by decide) (by omega))
    have h2 : x % 2 ^ (32 * k) < 2 ^ (64 * i) := Nat.lt_of_lt_of_le (Nat.mod_lt _ (Nat.two_pow_pos _)) (Nat.pow_le_pow_right (by decide) (by omega))
    rw [Nat.div_eq_of_lt h1, Nat.div_eq_of_lt h2]
theorem RowN.set {W : World} {g x k : Nat} (h : RowN W g (x % 2 ^ (32 * k))) (hk : k < 8) (z : Int) (e : z = lb (k / 2) (x % 2 ^ (32 * (k + 1)))) : RowN (W.setCell ⟨g, k / 2, none⟩ (.int .u64 z)) g (x % 2 ^ (32 * (k + 1))) := by
  have hs : ∀ i, i ≠ k / 2 → lb i (x % 2 ^ (32 * k)) = lb i (x % 2 ^ (32 * (k + 1))) := fun i hi => by rw [lb_nat, lb_nat, word_same hi]
  unfold RowN Row4 at *
  rw [heap_setCell_same W g (k / 2) _ _ _ h, e]
  have hq : k / 2 = 0 ∨ k / 2 = 1 ∨ k / 2 = 2 ∨ k / 2 = 3 := by omega
  rcases hq with hq | hq | hq | hq
  · rw [hq, hs 1 (by omega), hs 2 (by omega), hs 3 (by omega)]; rfl
  · rw [hq, hs 0 (by omega), hs 2 (by omega), hs 3 (by omega)]; rfl
  · rw [hq, hs 0 (by omega), hs 1 (by omega), hs 3 (by omega)]; rfl
  · rw [hq, hs 0 (by omega), hs 1 (by omega), hs 2 (by omega)]; rfl
theorem RowN.free {W : World} {g z : Nat} (h : RowN W g z) (i : Nat) : W.frozen? ⟨g, i, none⟩ = false := frozen_of_row W g i _ _ h
theorem RowN.zero (W : World) (g : Nat) (h : Row4 W g (.int .u64 0) (.int .u64 0) (.int .u64 0) (.int .u64 0)) : RowN W g 0 := by
  unfold RowN
  rw [lb_zero, lb_zero, lb_zero, lb_zero]
  exact h

set_option maxHeartbeats 1000000 in
set_option maxRecDepth 100000 in
theorem rnat_core (s : Value) (b off n c x : Nat) (hn : n = (digs x).length) (hn8 : n ≤ 8) (hn0 : 0 < n) (w : World) (hb : b < w.heap.size) (hcs : Cs w b off (digs x))
    (k1 : ∀ W, Below w.heap.size w W → Calls Tryz.prog 56 #[s] W fun e w' => e = .returned (.slice (some ⟨b, off, none⟩) n c) ∧ w' = W) :
    Calls Tryz.prog 77 #[s] w fun e w' => e = .returned (.tuple #[N4 x, .bool true]) ∧ Below w.heap.size w w' := by
  have HN := Lib.hid hn; have HC := Lib.hid hcs; have K1 := Lib.hid k1; clear hn hcs k1
  go_enter Tryz.func77, Tryz.ntmps77
  go_wp2_with fail
  refine (K1.out _ (by repeat (first | (with_reducible exact Below.refl _ _) | (with_reducible refine bal ?_ _) | (with_reducible refine Below.drew ?_) | (with_reducible refine bdn ?_ _)))).mono ?_
  rintro e w1 ⟨rfl, hw⟩
  rw [hw]; clear hw w1
  go_wp2_with fail
  refine (K1.out _ (by repeat (first | (with_reducible exact Below.refl _ _) | (with_reducible refine bal ?_ _) | (with_reducible refine Below.drew ?_) | (with_reducible refine bdn ?_ _)))).mono ?_
  rintro e w1 ⟨rfl, hw⟩
  rw [hw]; clear hw w1
  go_wp2
  go_loopw [6] (fun i wr => ∃ k : Nat, i = .int .i64 (k : Int) ∧ k ≤ n ∧ Hid (RowN wr (w.heap.size + 1) (x % 2 ^ (32 * k))) ∧ Hid (RowN wr w.heap.size 0) ∧ Below w.heap.size w wr)
    (fun i _ => n - (intOf i).toNat)
  case atStart =>
    refine ⟨0, rfl, by omega, ?_, ?_, bal (bal (Below.refl _ _) _) _⟩
    · show RowN _ _ _
      rw [Nat.mul_zero, Nat.pow_zero, Nat.mod_one]
      exact RowN.zero _ _ (by first | exact Row4.new' _ (by simp) _ _ _ _)
    · exact RowN.zero _ _ (Row4.alloc (Row4.new w _ _ _ _) _)
  case round =>
    obtain ⟨k, rfl, hk, HR, HZ, hbw⟩ := hrel
    by_cases h1 : k < n
    · obtain ⟨q, hq⟩ : ∃ q, q = k / 2 := ⟨_, rfl⟩
      obtain ⟨r, hr⟩ : ∃ r, r = k % 2 := ⟨_, rfl⟩
      obtain ⟨d, hd⟩ : ∃ d, d = x / 2 ^ (32 * k) % 4294967296 := ⟨_, rfl⟩
      obtain ⟨o, ho⟩ : ∃ o, o = x % 2 ^ (32 * k) / 2 ^ (64 * q) % 18446744073709551616 := ⟨_, rfl⟩
      obtain ⟨v, hv⟩ : ∃ v, v = d * 2 ^ (32 * r) := ⟨_, rfl⟩
      have hst := word_step (x := x) hq hr
      rw [← hd, ← ho, ← hv] at hst
      have hd1 : d < 4294967296 := by omega
      have ho1 : o < 18446744073709551616 := by omega
      have hr2 : r = 0 ∨ r = 1 := by omega
      have hz2 : o < 2 ^ (32 * r) := by
        have hz : x % 2 ^ (32 * k) < 2 ^ (32 * k) := Nat.mod_lt _ (Nat.two_pow_pos _)
        rw [show 32 * k = 64 * q + 32 * r from by omega, Nat.pow_add] at hz
        have := Nat.div_lt_of_lt_mul hz
        rw [ho]
        rw [show 32 * k = 64 * q + 32 * r from by omega, Nat.pow_add]
        exact Nat.lt_of_le_of_lt (Nat.mod_le _ _) this
      have hv1 : v < 18446744073709551616 := by
        rcases hr2 with h | h <;> rw [hv, h]
        · omega
        · rw [show 2 ^ (32 * 1) = 4294967296 from by decide]; omega
      have hov : bits .or .u64 (o : Int) (v : Int) = ((o + v : Nat) : Int) := by
        rw [u64_or_nat o v ho1 hv1]
        congr 1
        rw [hv, Nat.or_comm, Nat.mul_comm, ← Nat.two_pow_add_eq_or_of_lt hz2, Nat.add_comm]
      have hnew : o + v < 18446744073709551616 := by
        rcases hr2 with h | h <;> rw [h] at hz2 hv
        · simp at hz2; omega
        · rw [show 2 ^ (32 * 1) = 4294967296 from by decide] at hz2 hv; omega
      have q1 : wr.cell? ⟨b, off + k, none⟩ = some (.int .u32 (d : Int)) := by
        rw [hbw.cell (p := ⟨b, off + k, none⟩) hb, HC.out k (by have := HN.out; omega), digs_get, ← hd]
      have q2 : wr.cell? ⟨w.heap.size + 1, q, none⟩ = some (.int .u64 (o : Int)) := by
        have := HR.out.at q (by omega)
        rw [← ho] at this
        exact this
      have q3 : wr.frozen? ⟨w.heap.size + 1, q, none⟩ = false := HR.out.free q
      have HS : Hid (RowN (wr.setCell ⟨w.heap.size + 1, q, none⟩ (.int .u64 ((o + v : Nat) : Int))) (w.heap.size + 1) (x % 2 ^ (32 * (k + 1)))) := by
        show RowN _ _ _
        rw [hq]
        refine RowN.set HR.out (by omega) _ ?_
        rw [lb_nat, ← hq, hst]
      have HZ2 : ∀ z, Hid (RowN (wr.setCell ⟨w.heap.size + 1, q, none⟩ z) w.heap.size 0) := fun z => Row4.set HZ.out (by omega) z
      have e1 : ((k : Int)).tdiv 2 = (q : Int) := by rw [Int.tdiv_eq_ediv_of_nonneg (by omega)]; omega
      have e2 : (k : Int) / 2 = (q : Int) := by omega
      have e3 : ((k : Int)).tmod 2 = (r : Int) := by rw [Int.tmod_eq_emod_of_nonneg (by omega)]; omega
      have e4 : (k : Int) % 2 = (r : Int) := by omega
      have e5 : IntKind.i64.wrap (32 * (r : Int)) = 32 * (r : Int) := Go.IntWalk.i64_in _ (by omega)
      have e6 : IntKind.u64.wrap (32 * (r : Int)) = 32 * (r : Int) := by rw [IntKind.wrap_u64]; omega
      have e7 : IntKind.u64.wrap ((d : Int) * 2 ^ (32 * (r : Int)).toNat) = (v : Int) := by
        rw [show (32 * (r : Int)).toNat = 32 * r from by omega, wrap_mul_pow, ← hv]
        omega
      have e8 : IntKind.u64.wrap (d : Int) = (d : Int) := by rw [IntKind.wrap_u64]; omega
      have b0 : (0 : Int) ≤ (k : Int) := by omega
      have b1 : (k : Int) < (n : Int) := by omega
      have b2 : (0 : Int) ≤ (q : Int) := by omega
      have b3 : (q : Int) < 4 := by omega
      have b4 : (0 : Int) ≤ 32 * (r : Int) := by omega
      have b5 : 32 * (r : Int) ≤ 64 := by omega
      have t1 : ((k : Int)).toNat = k := Int.toNat_natCast k
      have t2 : ((q : Int)).toNat = q := Int.toNat_natCast q
      clear hst hz2 hv1 hnew hd ho hv hq hr hr2
      go_upto_region 8 with (fail)
      go_region
      clear e1 e2 e3 e4 e5 e6 e7 e8 q1 q2 q3 hov
      go_wp2
      go_roundw
      case rel => exact ⟨k + 1, by go_num, by omega, by first | exact HS | exact Row4.drew HS | exact Row4.drewN HS _, by first | exact HZ2 _ | exact Row4.drew (HZ2 _) | exact Row4.drewN (HZ2 _) _, by repeat (first | (with_reducible exact hbw) | (with_reducible refine Below.drew ?_) | (with_reducible refine bdn ?_ _) | ((with_reducible refine bsc ?_ ?_ _); rotate_left; (focus (simp only []; omega))))⟩
      case measure => simp [intOf]; omega
    · obtain rfl : k = n := by omega
      have hx : x % 2 ^ (32 * k) = x := Nat.mod_eq_of_lt (digs_len.1 (by have := HN.out; omega))
      have HR2 : RowN wr (w.heap.size + 1) x := by have := HR.out; rw [hx] at this; exact this
      have HZ2 : Row4 wr w.heap.size (.int .u64 (lb 0 0)) (.int .u64 (lb 1 0)) (.int .u64 (lb 2 0)) (.int .u64 (lb 3 0)) := HZ.out
      obtain ⟨c0, c1, c2, c3⟩ := Row4.four HR2
      obtain ⟨z0, z1, z2, z3⟩ := Row4.four HZ2
      obtain ⟨f0, f1, f2, f3⟩ := Row4.free4 HZ2
      clear hx
      go_wp2
      exact bodyPost_ret (v := .tuple #[N4 x, .bool true]) (by simp [results, Tryz.results77, go_sem, z0, z1, z2, z3]) rfl ⟨rfl, by repeat (first | (with_reducible exact hbw) | (with_reducible refine Below.drew ?_) | (with_reducible refine bdn ?_ _) | ((with_reducible refine bsc ?_ ?_ _); rotate_left; (focus (simp only []; omega))))⟩
set_option maxHeartbeats 1000000 in
set_option maxRecDepth 100000 in
theorem rnat_over (s : Value) (A : Option Addr) (n c : Nat) (hn : 8 < n) (w : World)
    (k1 : ∀ W, Below w.heap.size w W → Calls Tryz.prog 56 #[s] W fun e w' => e = .returned (.slice A n c) ∧ w' = W) :
    Calls Tryz.prog 77 #[s] w fun e w' => e = .returned (.tuple #[N4 0, .bool false]) ∧ Below w.heap.size w w' := by
  have K1 := Lib.hid k1; clear k1
  go_enter Tryz.func77, Tryz.ntmps77
  go_wp2_with fail
  refine (K1.out _ (by repeat (first | (with_reducible exact Below.refl _ _) | (with_reducible refine bal ?_ _) | (with_reducible refine Below.drew ?_) | (with_reducible refine bdn ?_ _)))).mono ?_
  rintro e w1 ⟨rfl, hw⟩
  rw [hw]; clear hw w1
  go_wp2
  exact bodyPost_ret (v := .tuple #[N4 0, .bool false]) (by simp [results, Tryz.results77, go_sem, N4, lb_zero]) rfl ⟨rfl, by repeat (first | (with_reducible exact Below.refl _ _) | (with_reducible refine bal ?_ _) | (with_reducible refine Below.drew ?_) | (with_reducible refine bdn ?_ _) | ((with_reducible refine bsc ?_ ?_ _); rotate_left; (focus (simp only []; omega))))⟩
set_option maxHeartbeats 1000000 in
set_option maxRecDepth 100000 in
theorem rnat_zero (s : Value) (A : Option Addr) (c : Nat) (w : World)
    (k1 : ∀ W, Below w.heap.size w W → Calls Tryz.prog 56 #[s] W fun e w' => e = .returned (.slice A 0 c) ∧ w' = W) :
    Calls Tryz.prog 77 #[s] w fun e w' => e = .returned (.tuple #[N4 0, .bool true]) ∧ Below w.heap.size w w' := by
  have K1 := Lib.hid k1; clear k1
  go_enter Tryz.func77, Tryz.ntmps77
  go_wp2_with fail
  refine (K1.out _ (by repeat (first | (with_reducible exact Below.refl _ _) | (with_reducible refine bal ?_ _) | (with_reducible refine Below.drew ?_) | (with_reducible refine bdn ?_ _)))).mono ?_
  rintro e w1 ⟨rfl, hw⟩
  rw [hw]; clear hw w1
  go_wp2_with fail
  refine (K1.out _ (by repeat (first | (with_reducible exact Below.refl _ _) | (with_reducible refine bal ?_ _) | (with_reducible refine Below.drew ?_) | (with_reducible refine bdn ?_ _)))).mono ?_
  rintro e w1 ⟨rfl, hw⟩
  rw [hw]; clear hw w1
  go_wp2
  refine wp_loop_rounds 1 ?_
  rw [rounds_succ]
  go_wp2
  exact bodyPost_ret (v := .tuple #[N4 0, .bool true]) (by simp [results, Tryz.results77, go_sem, N4, lb_zero]) rfl ⟨rfl, by repeat (first | (with_reducible exact Below.refl _ _) | (with_reducible refine bal ?_ _) | (with_reducible refine Below.drew ?_) | (with_reducible refine bdn ?_ _) | ((with_reducible refine bsc ?_ ?_ _); rotate_left; (focus (simp only []; omega))))⟩
theorem trim_keep {s : Value} {x : Nat} {w : World} (h : DR w s x) : ∃ s', DR w s' x ∧ ∀ W, Below w.heap.size w W → Calls Tryz.prog 56 #[s] W fun e w' => e = .returned s' ∧ w' = W := by
  rcases h with ⟨h, A, c, rfl⟩ | ⟨b, off, c, rfl, hc, hlt, hcs⟩
  · exact ⟨_, .inl ⟨h, A, c, rfl⟩, fun W _ => trim_nil A c W⟩
  · refine ⟨.slice (some ⟨b, off, none⟩) (digs x).length c, .inr ⟨b, off, c, rfl, hc, hlt, hcs⟩, fun W hW => ?_⟩
    have := trim_some b off c (digs x) hc.1 hc.2 W (hcs.keep hW hlt) (digs_sm x)
    rw [dval_digs] at this
    exact this
theorem rnat {s : Value} {x : Nat} {w : World} (hx : DR w s x) :
    Calls Tryz.prog 77 #[s] w fun e w' => e = .returned (if x < 2 ^ 256 then .tuple #[N4 x, .bool true] else .tuple #[N4 0, .bool false]) ∧ Below w.heap.size w w' := by
  obtain ⟨s', h1, k1⟩ := trim_keep hx
  have hl := digs_len (x := x) (k := 8)
  by_cases h8 : (digs x).length ≤ 8
  · rw [if_pos (hl.1 h8)]
    rcases h1 with ⟨h, A, c, rfl⟩ | ⟨b, off, c, rfl, hc, hlt, hcs⟩
    · have x0 : x = 0 := by have := digs_len.1 (show (digs x).length ≤ 0 by rw [h]; exact Nat.le_refl _); simpa using this
      subst x0
      exact rnat_zero s A c w k1
    · by_cases h0 : (digs x).length = 0
      · have x0 : x = 0 := by have := digs_len.1 (show (digs x).length ≤ 0 by omega); simpa using this
        subst x0
        rw [h0] at k1
        exact rnat_zero s _ c w k1
      · exact rnat_core s b off _ c x rfl h8 (by omega) w hlt hcs k1
  · rw [if_neg (fun h => h8 (hl.2 h))]
    obtain ⟨A, c, rfl, _⟩ := h1.form
    exact rnat_over s A _ c (by omega) w k1
end Go.Proofs.YtjlgiejggcbgbaaGreatDoor
