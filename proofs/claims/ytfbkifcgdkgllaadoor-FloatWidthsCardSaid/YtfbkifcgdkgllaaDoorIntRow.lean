/-
  What the rows of this stage share: the listed tables as the walks ask for them; a whole number (a sign and four words) as a parameter, opened and shut.
-/
import Derived.Test.YtfbkifcgdkgllaaDoorNatRow
import Derived.Test.YtfbkifcgdkgllaaDoorNatTrail
import Derived.ChangeSame
namespace Go.Proofs.YtfbkifcgdkgllaaDoor
open Go.ChangeShapes Go.WideShapes Go.ChangeAt Go.RowKit

theorem tb_data : (Rows.laid_math_bits_deBruijn64tab : DataW Unit) = Lib.tabData .u8 (Lib.deBruijn64tab.map Int.ofNat) := by
  unfold Rows.laid_math_bits_deBruijn64tab Lib.tabData Lib.deBruijn64tab
  rfl
theorem tabs_of_laid {W : World} (h : laidMetH Tryd.prog laid3 W) : Tabs W := by
  refine ⟨tab_of_laid h, ?_⟩
  rw [MakeChecks.laidMetH_plain _ _ _ (by kernel_rfl)] at h
  have h2 := laidMet.tail h
  unfold laid3 at h2
  rw [tb_data] at h2
  exact Lib.tabIs_of_head (g := 0) (t := 112) (e := 5) (n := 64) (by kernel_rfl) (by kernel_rfl) (by kernel_rfl) (by kernel_rfl) (by kernel_rfl) (by kernel_rfl) h2

set_option maxRecDepth 100000 in
/-- A whole number as a parameter, opened. -/
theorem open_int5 {H : Type} {enc : TypeId × Value → H} {W : World} {base : Nat} {sp : Nat → Bool} {held : Bool} {r : Reach} {b : Nat} {v : Value} {d : DataW H} {p : List MemPlace}
    (hv : Value.okWide Tryd.prog W r b 46 v) (h : DataW.Trod enc Tryd.prog W base sp held 46 v d p) :
    ∃ (g : Bool) (x : Nat), x < 2 ^ 256 ∧ v = I5 g x ∧ d = .agg [.lit (.bool g), .agg [.lit (.int .u64 (lb 0 x)), .lit (.int .u64 (lb 1 x)), .lit (.int .u64 (lb 2 x)), .lit (.int .u64 (lb 3 x))]] ∧ p = [] := by
  have ht : Tryd.prog.underlying 46 = some (.struct #[{ name := "Neg", type := 4, offset := 0, embedded := false, tag := "", pkgPath := "", byteOffset := 0 }, { name := "N", type := 24, offset := 1, embedded := false, tag := "", pkgPath := "", byteOffset := 8 }]) := by kernel_rfl
  have htn : Tryd.prog.underlying 24 = some (.array 4 22) := by kernel_rfl
  have htb : Tryd.prog.underlying 4 = some .bool := by kernel_rfl
  have he : Tryd.prog.underlying 22 = some (.int .u64) := by kernel_rfl
  have hc : Tryd.prog.cellsOf 46 = 5 := by kernel_rfl
  have hcb : Tryd.prog.cellsOf 4 = 1 := by kernel_rfl
  have hcn : Tryd.prog.cellsOf 24 = 4 := by kernel_rfl
  have hce : Tryd.prog.cellsOf 22 = 1 := by kernel_rfl
  simp only [Value.okWide, ht] at hv
  obtain ⟨cs, rfl, hsz, _⟩ := hv
  rw [hc] at hsz
  obtain ⟨l⟩ := cs
  match l, hsz with
  | [c0, c1, c2, c3, c4], _ =>
    obtain ⟨fuel, hf⟩ := h
    obtain ⟨y0, y1, n, hx, _, h0, h1⟩ := trod_struct2 ht hf
    rw [hcb] at h0
    rw [hcn] at h1
    have h0' : DataW.trod enc Tryd.prog W base sp held n 4 [c0] = some y0 := h0
    have h1' : DataW.trod enc Tryd.prog W base sp held n 24 [c1, c2, c3, c4] = some y1 := h1
    obtain ⟨g, eg, rfl⟩ := DataW.trod_bool htb h0'
    obtain ⟨z0, z1, z2, z3, m, hy, k0, k1, k2, k3⟩ := trod_array4 htn hce h1'
    obtain ⟨a0, e0, rfl, w0⟩ := DataW.trod_int he k0
    obtain ⟨a1, e1, rfl, w1⟩ := DataW.trod_int he k1
    obtain ⟨a2, e2, rfl, w2⟩ := DataW.trod_int he k2
    obtain ⟨a3, e3, rfl, w3⟩ := DataW.trod_int he k3
    simp only [List.cons.injEq, and_true] at e0 e1 e2 e3 eg
    subst e0 e1 e2 e3 eg hy
    simp only [Prod.mk.injEq] at hx
    have wd : ∀ a : Int, (Lit.int .u64 a).wf = true → Word a := fun a h => by
      have := bounds_u64 h
      unfold Word; omega
    obtain ⟨x, hx1, _, l0, l1, l2, l3⟩ := nat_of (wd _ w0) (wd _ w1) (wd _ w2) (wd _ w3)
    refine ⟨g, x, hx1, ?_, ?_, ?_⟩
    · unfold I5; rw [l0, l1, l2, l3]
    · rw [hx.1, l0, l1, l2, l3]
    · rw [hx.2]; rfl
set_option maxRecDepth 100000 in
/-- .. and shut. -/
theorem shut_int5 {H : Type} {enc : TypeId × Value → H} {W : World} {base : Nat} {sp : Nat → Bool} {held : Bool} (g : Bool) (x : Nat) :
    DataW.Trod enc Tryd.prog W base sp held 46 (I5 g x) (.agg [.lit (.bool g), .agg [.lit (.int .u64 (lb 0 x)), .lit (.int .u64 (lb 1 x)), .lit (.int .u64 (lb 2 x)), .lit (.int .u64 (lb 3 x))]]) [] := by
  have ht : Tryd.prog.underlying 46 = some (.struct #[{ name := "Neg", type := 4, offset := 0, embedded := false, tag := "", pkgPath := "", byteOffset := 0 }, { name := "N", type := 24, offset := 1, embedded := false, tag := "", pkgPath := "", byteOffset := 8 }]) := by kernel_rfl
  have htn : Tryd.prog.underlying 24 = some (.array 4 22) := by kernel_rfl
  have htb : Tryd.prog.underlying 4 = some .bool := by kernel_rfl
  have he : Tryd.prog.underlying 22 = some (.int .u64) := by kernel_rfl
  have hc : Tryd.prog.cellsOf 46 = 5 := by kernel_rfl
  have hcb : Tryd.prog.cellsOf 4 = 1 := by kernel_rfl
  have hcn : Tryd.prog.cellsOf 24 = 4 := by kernel_rfl
  have hce : Tryd.prog.cellsOf 22 = 1 := by kernel_rfl
  refine ⟨3, ?_⟩
  have r4 : List.range 4 = [0, 1, 2, 3] := rfl
  have h0 : DataW.trod enc Tryd.prog W base sp held 2 4 [.bool g] = some (.lit (.bool g), []) := by simp [DataW.trod, htb]
  have h1 : DataW.trod enc Tryd.prog W base sp held 2 24 [.int .u64 (lb 0 x), .int .u64 (lb 1 x), .int .u64 (lb 2 x), .int .u64 (lb 3 x)] = some (.agg [.lit (.int .u64 (lb 0 x)), .lit (.int .u64 (lb 1 x)), .lit (.int .u64 (lb 2 x)), .lit (.int .u64 (lb 3 x))], []) := by
    simp [DataW.trod, htn, he, hcn, hce, r4, wf_lb]
  exact trod_struct2_mk (y0 := (.lit (.bool g), [])) (y1 := (.agg [.lit (.int .u64 (lb 0 x)), .lit (.int .u64 (lb 1 x)), .lit (.int .u64 (lb 2 x)), .lit (.int .u64 (lb 3 x))], [])) ht (by rw [hc]; rfl) (by rw [hcb]; exact h0) (by rw [hcn]; exact h1)

end Go.Proofs.YtfbkifcgdkgllaaDoor
