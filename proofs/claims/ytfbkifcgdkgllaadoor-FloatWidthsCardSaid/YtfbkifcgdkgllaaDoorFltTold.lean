/-
  entrepotlaw3.told answers true. The table math/bits.deBruijn64tab reads as its initialiser lays it.
-/
import Derived.Test.YtfbkifcgdkgllaaDoorFltF
namespace Go.Proofs.YtfbkifcgdkgllaaDoor
open Go.RowKit Go.Shelf Go.Sort
attribute [local go_sem ↓] eql_nat neq_nat eql_int5 neq_int5

theorem Iz_word (v : Nat) (h : v < 18446744073709551616) : Iz (v : Int) = .agg #[.bool false, .int .u64 (v : Int), .int .u64 0, .int .u64 0, .int .u64 0] := by
  rw [Iz_nat]
  unfold I5
  obtain ⟨l0, l1, l2, l3⟩ := lb_small (v := (v : Int)) (by omega) (by omega)
  rw [Int.natAbs_natCast] at l0 l1 l2 l3
  rw [l0, l1, l2, l3]
theorem told3_true (w : World) (hT : Tb w) : Calls Tryd.prog 59 #[] w fun e w' => e = .returned (.bool true) ∧ Below w.heap.size w w' := by
  have o1 := Iz_word 1 (by decide)
  refine told3_core w (fun W hW => ?_) (fun W => ?_) (fun W => ?_) (fun W => ?_) (fun W hW => ?_) (fun W hW => ?_) (fun W hW => ?_)
  · have := whole_any 4607182418800017408 (by decide) W (tb_on hT hW)
    have e : WEnd 4607182418800017408 = .tuple #[Iz ((1 : Nat) : Int), .bool true] := by
      unfold WEnd
      rw [show whl 4607182418800017408 = some 1 from by decide +kernel]
      simp only []
      rw [show sg 4607182418800017408 = 0 from by decide, if_neg (by decide)]
    rw [e, o1] at this
    exact this
  · have := tohalf_any 4607182418800017408 (by decide) W
    rw [show toh 4607182418800017408 = (15360, true) from by decide +kernel] at this
    exact calls_below this
  · have := of_z 1 (by decide) (by decide) W
    rw [show (1 : Int) = ((1 : Nat) : Int) from rfl, o1] at this
    exact this
  · have := half_any 15360 (by decide) W
    rw [show hlf 15360 = 4607182418800017408 from by decide +kernel] at this
    exact calls_below this
  · have := class_any 4602678819172646912 (by decide) W (tb_on hT hW)
    rw [show cls 4602678819172646912 = 1 from by decide +kernel] at this
    exact this
  · have := class_any 4607182418800017408 (by decide) W (tb_on hT hW)
    rw [show cls 4607182418800017408 = 0 from by decide +kernel] at this
    exact this
  · have := behind_any 4602678819172646912 (by decide) W (tb_on hT hW)
    rw [show beh 4602678819172646912 = 1 from by decide +kernel] at this
    exact calls_below this

end Go.Proofs.YtfbkifcgdkgllaaDoor
