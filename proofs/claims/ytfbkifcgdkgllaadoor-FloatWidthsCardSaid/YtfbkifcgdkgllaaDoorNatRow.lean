/-
  What all the rows of this seat share: the listed tables as the walks ask for them; a number of four words as a parameter, opened and shut.
-/
import Derived.Test.YtfbkifcgdkgllaaDoorRows
import Derived.Test.YtfbkifcgdkgllaaDoorNatFmt
import Derived.ProofKit
import Derived.LaidMore
import Derived.OpenShut
import Derived.Stop.Joined
import Derived.Stop.LaidErr
import Derived.Laws.IdiomArrays
namespace Go.Proofs.YtfbkifcgdkgllaaDoor
open Go.ChangeShapes Go.WideShapes Go.ChangeAt Go.RowKit

theorem own : ownKnob Tryd.prog.godebug = none := by kernel_rfl
def laid3 : List (String × DataW Unit) := [("math/bits.deBruijn32tab", Rows.laid_math_bits_deBruijn32tab), ("math/bits.deBruijn64tab", Rows.laid_math_bits_deBruijn64tab), ("internal/strconv.uint64pow10", Rows.laid_internal_strconv_uint64pow10)]
/-- The door's own heap meets the condition. -/
theorem door_met (os : Os) (args : Array Value) : laidMetH Tryd.prog laid3 ((World.doorLaid Tryd.prog 24 os).forCall (fun _ _ => 0) ⟨#[], args, []⟩).memory :=
  laidMetH_of_parts3 (fuel := 8) (laidMet_of_run' 8 (by kernel_rfl) (by kernel_rfl)) (by kernel_rfl) (by kernel_rfl)
theorem tab_data : (Rows.laid_internal_strconv_uint64pow10 : DataW Unit) = Lib.tabData .u64 Lib.pow10Tab := by
  unfold Rows.laid_internal_strconv_uint64pow10 Lib.tabData Lib.pow10Tab
  rfl
theorem tab_of_laid {W : World} (h : laidMetH Tryd.prog laid3 W) : Tab W := by
  rw [MakeChecks.laidMetH_plain _ _ _ (by kernel_rfl)] at h
  have h3 := laidMet.tail (laidMet.tail h)
  unfold laid3 at h3
  rw [tab_data] at h3
  exact Lib.tabIs_of_head (g := 4) (t := 142) (e := 22) (n := 20) (by kernel_rfl) (by kernel_rfl) (by kernel_rfl) (by kernel_rfl) (by kernel_rfl) (by kernel_rfl) h3

set_option maxRecDepth 100000 in
/-- A number of four words as a parameter, opened. -/
theorem open_nat {H : Type} {enc : TypeId × Value → H} {W : World} {base : Nat} {sp : Nat → Bool} {held : Bool} {r : Reach} {b : Nat} {v : Value} {d : DataW H} {p : List MemPlace}
    (hv : Value.okWide Tryd.prog W r b 24 v) (h : DataW.Trod enc Tryd.prog W base sp held 24 v d p) :
    ∃ x : Nat, x < 2 ^ 256 ∧ v = N4 x ∧ d = .agg [.lit (.int .u64 (lb 0 x)), .lit (.int .u64 (lb 1 x)), .lit (.int .u64 (lb 2 x)), .lit (.int .u64 (lb 3 x))] ∧ p = [] := by
  have ht : Tryd.prog.underlying 24 = some (.array 4 22) := by kernel_rfl
  have he : Tryd.prog.underlying 22 = some (.int .u64) := by kernel_rfl
  have hc : Tryd.prog.cellsOf 24 = 4 := by kernel_rfl
  have hce : Tryd.prog.cellsOf 22 = 1 := by kernel_rfl
  simp only [Value.okWide, ht] at hv
  obtain ⟨cs, rfl, hsz, _⟩ := hv
  rw [hc] at hsz
  obtain ⟨l⟩ := cs
  match l, hsz with
  | [c0, c1, c2, c3], _ =>
    obtain ⟨fuel, hf⟩ := h
    obtain ⟨y0, y1, y2, y3, n, hx, h0, h1, h2, h3⟩ := trod_array4 ht hce (c0 := c0) (c1 := c1) (c2 := c2) (c3 := c3) hf
    obtain ⟨a0, e0, rfl, w0⟩ := DataW.trod_int he h0
    obtain ⟨a1, e1, rfl, w1⟩ := DataW.trod_int he h1
    obtain ⟨a2, e2, rfl, w2⟩ := DataW.trod_int he h2
    obtain ⟨a3, e3, rfl, w3⟩ := DataW.trod_int he h3
    simp only [List.cons.injEq, and_true] at e0 e1 e2 e3
    subst e0 e1 e2 e3
    simp only [Prod.mk.injEq] at hx
    have wd : ∀ a : Int, (Lit.int .u64 a).wf = true → Word a := fun a h => by
      have := bounds_u64 h
      unfold Word; omega
    obtain ⟨x, hx1, _, l0, l1, l2, l3⟩ := nat_of (wd _ w0) (wd _ w1) (wd _ w2) (wd _ w3)
    refine ⟨x, hx1, ?_, ?_, ?_⟩
    · unfold N4; rw [l0, l1, l2, l3]
    · rw [hx.1, l0, l1, l2, l3]
    · rw [hx.2]; rfl
theorem wf_lb (i x : Nat) : (Lit.int .u64 (lb i x)).wf = true := by
  have := lb_word i x
  unfold Word at this
  exact WalkArith.wf_u64 ⟨this.1, by omega⟩
set_option maxRecDepth 100000 in
/-- .. and shut. -/
theorem shut_nat {H : Type} {enc : TypeId × Value → H} {W : World} {base : Nat} {sp : Nat → Bool} {held : Bool} (x : Nat) :
    DataW.Trod enc Tryd.prog W base sp held 24 (N4 x) (.agg [.lit (.int .u64 (lb 0 x)), .lit (.int .u64 (lb 1 x)), .lit (.int .u64 (lb 2 x)), .lit (.int .u64 (lb 3 x))]) [] := by
  have ht : Tryd.prog.underlying 24 = some (.array 4 22) := by kernel_rfl
  have he : Tryd.prog.underlying 22 = some (.int .u64) := by kernel_rfl
  have hc : Tryd.prog.cellsOf 24 = 4 := by kernel_rfl
  have hce : Tryd.prog.cellsOf 22 = 1 := by kernel_rfl
  refine ⟨2, ?_⟩
  have r4 : List.range 4 = [0, 1, 2, 3] := rfl
  simp [DataW.trod, ht, he, hc, hce, r4, wf_lb, Value.cells]

end Go.Proofs.YtfbkifcgdkgllaaDoor
