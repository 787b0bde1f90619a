/-
  The reference's Less: the contract, for all numbers of at most 1000 digits of 32 bits, all divisors of 32 bits.
-/
import Derived.Test.YtocffoemimghhaaGreatDoorGC
import Derived.Test.YtocffoemimghhaaGreatDoorGL
namespace Go.Proofs.YtocffoemimghhaaGreatDoor
open Go.RowKit Go.Shelf

/-- A word out of two halves. -/
theorem word_or (c a s : Nat) (hc : c < 4294967296) (ha : a < 4294967296) (hs : s = c * 4294967296 + a) : bits .or .u64 (IntKind.u64.wrap ((c : Int) * 4294967296)) (a : Int) = (s : Int) := by
  have e0 : (4294967296 : Int) = 2 ^ 32 := by decide
  rw [e0, wrap_mul_pow]
  have e : c * 2 ^ 32 % 2 ^ 64 = 2 ^ 32 * c := by omega
  rw [e, u64_or_nat _ _ (by omega) (by omega), ← Nat.two_pow_add_eq_or_of_lt (i := 32) (b := a) (by omega) c]
  omega
/-- What holds at the head of Less's loop, k digits still to be divided. -/
def LessAt (x d n k c : Nat) (O : List Nat) : Prop :=
  O.length = n ∧ Sm O ∧ c = x / 2 ^ (32 * k) % d ∧ dval O = 2 ^ (32 * k) * (x / 2 ^ (32 * k) / d)
theorem LessAt.start {x d n : Nat} (hx : x < 2 ^ (32 * n)) : LessAt x d n n 0 (List.replicate n 0) :=
  ⟨by simp, Sm.zeros n, by rw [Nat.div_eq_of_lt hx, Nat.zero_mod], by rw [dval_zeros, Nat.div_eq_of_lt hx, Nat.zero_div, Nat.mul_zero]⟩
theorem LessAt.next {x d n i c : Nat} {O : List Nat} (hd : 0 < d) (hi : i < n) (h : LessAt x d n (i + 1) c O) {s : Nat} (hs : s = c * 4294967296 + x / 2 ^ (32 * i) % 4294967296) :
    s / d < 4294967296 ∧ LessAt x d n i (s % d) (O.set i (s / d)) := by
  obtain ⟨h1, h2, h3, h4⟩ := h
  have hc : c < d := by rw [h3]; exact Nat.mod_lt _ hd
  have hl := less_lt (x := x) (i := i) hd hc
  rw [← hs] at hl
  obtain ⟨s1, s2⟩ := less_step (x := x) (i := i) hd h3 rfl
  rw [← hs] at s1 s2
  have h0 : O.getD i 0 = 0 := by
    rw [← dval_get h2, h4, pow_step, Nat.mul_assoc, Nat.mul_div_cancel_left _ (Nat.two_pow_pos _), Nat.mul_mod_right]
  have e := dval_set O i (s / d) (by omega)
  rw [h0, Nat.mul_zero, Nat.add_zero, h4, pow_step, Nat.mul_assoc, ← Nat.mul_add] at e
  refine ⟨hl, by simp [h1], h2.set _ hl, s1.symm, ?_⟩
  rw [e, s2]
  rw [pow_step]
  congr 1
  omega
set_option maxHeartbeats 1000000 in
set_option maxRecDepth 100000 in
theorem rless_core (ba oa n ca d x : Nat) (hn : n = (digs x).length) (hn0 : 0 < n) (hn1 : n ≤ 1000) (hd0 : 0 < d) (hd1 : d < 4294967296) (w : World)
    (hba : ba < w.heap.size) (hx : Cs w ba oa (digs x)) :
    Calls Tryz.prog 111 #[.slice (some ⟨ba, oa, none⟩) n ca, .int .u32 (d : Int)] w fun e w' => ∃ s', e = .returned (.tuple #[s', .int .u32 ((x % d : Nat) : Int)]) ∧ DR w' s' (x / d) ∧ Below w.heap.size w w' := by
  have hmk := make_u32 n (by omega) (n : Int) rfl
  obtain ⟨M, hM⟩ : ∃ M, M = (U32s (List.replicate n 0)).toArray := ⟨_, rfl⟩
  rw [← hM] at hmk
  have HMM := Lib.hid hM; clear hM
  have HN := Lib.hid hn; have HX := Lib.hid hx; clear hn hx
  go_enter Tryz.func111, Tryz.ntmps111
  go_wp2
  go_loopw [7, 8] (fun c i wr => ∃ (k cc : Nat) (O : List Nat), c = .int .u64 (cc : Int) ∧ i = .int .i64 ((k : Int) - 1) ∧ k ≤ n ∧ Hid (LessAt x d n k cc O) ∧ Hid (Dk wr w.heap.size O) ∧ Below w.heap.size w wr)
    (fun _ i _ => (intOf i + 1).toNat)
  case atStart => exact ⟨n, 0, _, rfl, by (congr 1), Nat.le_refl _, LessAt.start (digs_len.1 (Nat.le_of_eq HN.out.symm)), (by show Dk _ _ _; rw [HMM.out]; exact Dk.new w _), bal (Below.refl _ _) _⟩
  case round =>
    obtain ⟨k, cc, O, rfl, rfl, hk, HI, HD, hbw⟩ := hrel
    obtain ⟨wo, rfl⟩ : ∃ wo : World, wo = wr := ⟨_, rfl⟩
    by_cases h0 : k = 0
    · subst h0
      obtain ⟨l1, l2, l3, l4⟩ := HI.out
      have hrd := HD.out.rd (by rw [l1]; omega)
      rw [l1] at hrd
      have ht := trim_dr hrd l2
      have hc : cc = x % d := by simpa using l3
      have hc1 : cc < d := by rw [hc]; exact Nat.mod_lt _ hd0
      have hv : dval O = x / d := by simpa using l4
      rw [hv] at ht
      have HT := Lib.hid ht; have HC := Lib.hid hc
      have w1 : IntKind.u32.wrap (cc : Int) = (cc : Int) := by rw [IntKind.wrap_u32]; omega
      clear ht hc hv l1 l2 l3 l4 hrd
      go_wp2_with fail
      refine HT.out.mono ?_
      rintro e w1 ⟨s', rfl, hr, hw⟩
      rw [hw]; clear hw w1
      go_wp2
      exact bodyPost_ret (v := .tuple #[s', .int .u32 (cc : Int)]) (by simp [results, Tryz.results111, go_sem]) rfl ⟨s', by rw [HC.out], hr, hbw⟩
    · obtain ⟨j, rfl⟩ : ∃ j, k = j + 1 := ⟨k - 1, by omega⟩
      obtain ⟨a, ha⟩ : ∃ a, a = x / 2 ^ (32 * j) % 4294967296 := ⟨_, rfl⟩
      have ha1 : a < 4294967296 := by omega
      have hcd : cc < d := by rw [HI.out.2.2.1]; exact Nat.mod_lt _ hd0
      obtain ⟨s, hs⟩ : ∃ s, s = cc * 4294967296 + a := ⟨_, rfl⟩
      have hs2 : s < 18446744073709551616 := by omega
      obtain ⟨hq1, hnext⟩ := HI.out.next hd0 (by omega) (s := s) (by rw [← ha]; exact hs)
      obtain ⟨q, hq⟩ : ∃ q, q = s / d := ⟨_, rfl⟩
      obtain ⟨r, hr⟩ : ∃ r, r = s % d := ⟨_, rfl⟩
      rw [← hq] at hq1
      rw [← hq, ← hr] at hnext
      have e1 : (((j + 1 : Nat) : Int) - 1) = (j : Int) := by omega
      have b0 : (0 : Int) ≤ (j : Int) := by omega
      have b1 : (j : Int) < (n : Int) := by omega
      have t1 : ((j : Int)).toNat = j := Int.toNat_natCast j
      have q2 : wo.cell? ⟨ba, oa + j, none⟩ = some (.int .u32 (a : Int)) := by
        rw [hbw.cell (p := ⟨ba, oa + j, none⟩) hba, HX.out j (by have := HN.out; omega), digs_get, ← ha]
      have f1 : wo.frozen? ⟨w.heap.size, j, none⟩ = false := HD.out.free j
      have o1 : wo.cell? ⟨w.heap.size, j, none⟩ = some (.int .u32 ((O.getD j 0 : Nat) : Int)) := HD.out.cell (by rw [HI.out.1]; omega)
      have w0 := word_or cc a s (by omega) ha1 hs
      have w1 : IntKind.u64.wrap (a : Int) = (a : Int) := by rw [IntKind.wrap_u64]; omega
      have w2 : IntKind.u64.wrap (d : Int) = (d : Int) := by rw [IntKind.wrap_u64]; omega
      have e3 : (s : Int) / (d : Int) = (q : Int) := by rw [hq, Int.natCast_ediv]
      have w3 : IntKind.u64.wrap (q : Int) = (q : Int) := by rw [IntKind.wrap_u64]; omega
      have e5 : (s : Int) % (d : Int) = (r : Int) := by rw [hr, Int.natCast_emod]
      have d0 : ((d : Int) == 0) = false := by rw [beq_eq_false_iff_ne]; omega
      have HNX := Lib.hid hnext
      rw [e1]
      clear hnext ha hs hq hr e1 hcd
      go_wp2
      go_roundw
      case rel => exact ⟨j, r, O.set j q, by rw [e5], by go_num, by omega, HNX.out, HD.out.set j _ _ rfl, bsc hbw (Nat.le_refl _) _⟩
      case measure => simp [intOf]
set_option maxHeartbeats 1000000 in
set_option maxRecDepth 100000 in
theorem rless_zero (A : Option Addr) (n ca d : Nat) (h0 : n = 0) (w : World) :
    Calls Tryz.prog 111 #[.slice A n ca, .int .u32 (d : Int)] w fun e w' => ∃ s', e = .returned (.tuple #[s', .int .u32 0]) ∧ DR w' s' 0 ∧ Below w.heap.size w w' := by
  have hmk := make_u32 n (by omega) (n : Int) rfl
  obtain ⟨M, hM⟩ : ∃ M, M = (U32s (List.replicate n 0)).toArray := ⟨_, rfl⟩
  rw [← hM] at hmk
  have hrd : Rd (w.alloc (.cells M 92)) (.slice (some ⟨w.heap.size, 0, none⟩) n n) (List.replicate n 0) := by
    rw [hM]
    have h := Dk.rd (Dk.new w (List.replicate n 0)) (by rw [List.length_replicate]; omega)
    rw [List.length_replicate] at h
    exact h
  have ht := trim_dr hrd (Sm.zeros n)
  rw [dval_zeros] at ht
  have hd : n ≤ 0 := by omega
  have hneg : ¬ (0 : Int) ≤ (n : Int) - 1 := by omega
  have hn9 : n ≤ 1000 := by omega
  have HT := Lib.hid ht; clear ht hrd hM h0
  go_enter Tryz.func111, Tryz.ntmps111
  go_wp2
  refine wp_loop_rounds 1 ?_
  rw [rounds_succ]
  go_wp2_with fail
  refine HT.out.mono ?_
  rintro e w1 ⟨s', rfl, hr, hw⟩
  rw [hw]; clear hw w1
  go_wp2
  exact bodyPost_ret (v := .tuple #[s', .int .u32 0]) (by simp [results, Tryz.results111, go_sem]) rfl ⟨s', rfl, hr, bal (Below.refl _ _) _⟩
theorem rless {s : Value} {x : Nat} {w : World} (hx : DR w s x) (lx : (digs x).length ≤ 1000) (d : Nat) (hd0 : 0 < d) (hd1 : d < 4294967296) :
    Calls Tryz.prog 111 #[s, .int .u32 (d : Int)] w fun e w' => ∃ s', e = .returned (.tuple #[s', .int .u32 ((x % d : Nat) : Int)]) ∧ DR w' s' (x / d) ∧ Below w.heap.size w w' := by
  by_cases h0 : (digs x).length = 0
  · obtain ⟨A, ca, rfl, _⟩ := hx.form
    have hx0 : x = 0 := by have := digs_len.1 (show (digs x).length ≤ 0 by omega); simpa using this
    have hz := rless_zero A _ ca d h0 w
    rw [show x / d = 0 from by rw [hx0, Nat.zero_div], show ((x % d : Nat) : Int) = 0 from by rw [hx0, Nat.zero_mod]; rfl]
    exact hz
  · rcases hx with ⟨h, _⟩ | ⟨b, off, c, rfl, hc, hlt, hcs⟩
    · rw [h] at h0; exact absurd rfl h0
    · exact rless_core b off _ c d x rfl (by omega) lx hd0 hd1 w hlt hcs
end Go.Proofs.YtocffoemimghhaaGreatDoor
