/-
  The reference's Small: the contract, for every word of 64 bits.
-/
import Derived.Test.YtfbkifcgdkgllaaDoorRefBase
namespace Go.Proofs.YtfbkifcgdkgllaaDoor
open Go.RowKit Go.Shelf

theorem small_any (v : Nat) (hv : v < 18446744073709551616) (w : World) :
    Calls Tryd.prog 110 #[.int .u64 (v : Int)] w fun e w' => ∃ s', e = .returned s' ∧ Rd w' s' (digs v) ∧ Below w.heap.size w w' := by
  have hrow := heap_alloc_new w (.cells #[.int .u32 ((v : Int) % 4294967296), .int .u32 ((v : Int) / 4294967296)] 63)
  have hrd : Rd (w.alloc (.cells #[.int .u32 ((v : Int) % 4294967296), .int .u32 ((v : Int) / 4294967296)] 63)) (.slice (some ⟨w.heap.size, 0, none⟩) 2 2) [v % 4294967296, v / 4294967296] := by
    refine .inr ⟨w.heap.size, 0, 2, rfl, ⟨Nat.le_refl 2, by decide⟩, by simp, fun i hi => ?_⟩
    have : i = 0 ∨ i = 1 := by simp at hi; omega
    rcases this with rfl | rfl
    · exact cell_of_row _ w.heap.size 0 _ _ _ hrow
    · exact cell_of_row _ w.heap.size 1 _ _ _ hrow
  have hsm : Sm [v % 4294967296, v / 4294967296] := Sm.cons (by omega) (Sm.one (by omega))
  have hval : dval [v % 4294967296, v / 4294967296] = v := by simp only [dval]; omega
  have HR := Lib.hid hrd; have HV := Lib.hid hval; clear hrow hrd hval
  go_enter Tryd.func110, Tryd.ntmps110
  go_wp2_with fail
  (with_reducible refine (trim_any _ _ _ HR.out hsm).mono ?_)
  rintro e w1 ⟨s', rfl, hr, rfl⟩
  go_wp2
  go_ret
  exact ⟨s', rfl, by rw [HV.out] at hr; exact hr, bal (Below.refl _ _) _⟩
end Go.Proofs.YtfbkifcgdkgllaaDoor
