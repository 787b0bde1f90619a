/-
  The reference's Add, Sub, Mul, said of slices that read as numbers' digits: of at most 1000 digits of 32 bits.
-/
import Derived.Test.YtfbkifcgdkgllaaDoorRefMul
import Derived.Test.YtfbkifcgdkgllaaDoorRefSmall
namespace Go.Proofs.YtfbkifcgdkgllaaDoor
open Go.RowKit Go.Shelf

theorem radd {s t : Value} {x y : Nat} {w : World} (hx : DR w s x) (hy : DR w t y) (lx : (digs x).length ≤ 1000) (ly : (digs y).length ≤ 1000) :
    Calls Tryd.prog 86 #[s, t] w fun e w' => ∃ s', e = .returned s' ∧ DR w' s' (x + y) ∧ Below w.heap.size w w' := by
  obtain ⟨A, ca, rfl, _⟩ := hx.form
  obtain ⟨B, cb, rfl, _⟩ := hy.form
  exact radd_core A B _ ca _ cb x y rfl rfl lx ly w hx hy
theorem rsub {s t : Value} {x y : Nat} {w : World} (hx : DR w s x) (hy : DR w t y) (lx : (digs x).length ≤ 1000) (hyx : y ≤ x) :
    Calls Tryd.prog 87 #[s, t] w fun e w' => ∃ s', e = .returned s' ∧ DR w' s' (x - y) ∧ Below w.heap.size w w' := by
  obtain ⟨A, ca, rfl, _⟩ := hx.form
  obtain ⟨B, cb, rfl, _⟩ := hy.form
  exact rsub_core A B _ ca _ cb x y rfl lx hyx w hx hy
set_option maxHeartbeats 1000000 in
set_option maxRecDepth 100000 in
theorem rmul_zero (A B : Option Addr) (n ca m cb N : Nat) (h0 : n = 0) (hm1 : m ≤ 1000) (hN : N = n + m + 1) (w : World) :
    Calls Tryd.prog 71 #[.slice A n ca, .slice B m cb] w fun e w' => ∃ s', e = .returned s' ∧ DR w' s' 0 ∧ Below w.heap.size w w' := by
  have hmk := make_u32 N (by omega) ((n : Int) + (m : Int) + 1) (by omega)
  obtain ⟨M, hM⟩ : ∃ M, M = (U32s (List.replicate N 0)).toArray := ⟨_, rfl⟩
  rw [← hM] at hmk
  have hrd : Rd (w.alloc (.cells M 63)) (.slice (some ⟨w.heap.size, 0, none⟩) N N) (List.replicate N 0) := by
    rw [hM]
    have h := Dk.rd (Dk.new w (List.replicate N 0)) (by rw [List.length_replicate]; omega)
    rw [List.length_replicate] at h
    exact h
  have ht := trim_dr hrd (Sm.zeros N)
  rw [dval_zeros] at ht
  have hd : n ≤ 0 := by omega
  have hn9 : n ≤ 1000 := by omega
  have HT := Lib.hid ht; clear ht hrd hM h0 hN
  go_enter Tryd.func71, Tryd.ntmps71
  go_wp2
  refine wp_loop_rounds 1 ?_
  rw [rounds_succ]
  go_wp2_with fail
  refine HT.out.mono ?_
  rintro e w1 ⟨s', rfl, hr, hw⟩
  rw [hw]; clear hw w1
  go_wp2
  go_ret
  exact ⟨s', rfl, hr, bal (Below.refl _ _) _⟩
theorem rmul {s t : Value} {x y : Nat} {w : World} (hx : DR w s x) (hy : DR w t y) (lx : (digs x).length ≤ 1000) (ly : (digs y).length ≤ 1000) :
    Calls Tryd.prog 71 #[s, t] w fun e w' => ∃ s', e = .returned s' ∧ DR w' s' (x * y) ∧ Below w.heap.size w w' := by
  obtain ⟨B, cb, rfl, _⟩ := hy.form
  by_cases h0 : (digs x).length = 0
  · obtain ⟨A, ca, rfl, _⟩ := hx.form
    have hx0 : x = 0 := by have := digs_len.1 (show (digs x).length ≤ 0 by omega); simpa using this
    have hz := rmul_zero A B _ ca _ cb _ h0 ly rfl w
    rw [show x * y = 0 from by rw [hx0, Nat.zero_mul]]
    exact hz
  · rcases hx with ⟨h, _⟩ | ⟨b, off, c, rfl, hc, hlt, hcs⟩
    · rw [h] at h0; exact absurd rfl h0
    · exact rmul_core b off B _ c _ cb x y _ rfl rfl (by omega) lx ly rfl w hlt hcs hy
theorem rsmall (v : Nat) (hv : v < 18446744073709551616) (w : World) :
    Calls Tryd.prog 110 #[.int .u64 (v : Int)] w fun e w' => ∃ s', e = .returned s' ∧ DR w' s' v ∧ Below w.heap.size w w' := small_any v hv w
end Go.Proofs.YtfbkifcgdkgllaaDoor
