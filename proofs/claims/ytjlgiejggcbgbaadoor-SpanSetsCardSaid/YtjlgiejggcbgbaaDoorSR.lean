/-
  SpRow SpRowI, one behind the other: a claim holds at most 60 files.
-/
import Derived.Test.YtjlgiejggcbgbaaDoorRows
import Derived.Test.YtjlgiejggcbgbaaDoorNatTrail
import Derived.Test.YtjlgiejggcbgbaaDoorSpMem
import Derived.WalkKit
import Derived.ProofKit
import Derived.LaidMore
import Derived.OpenShut
import Derived.Carry
import Derived.ChangeSlices
import Derived.Laws.IdiomArrays
import Derived.Stop.Joined
import Derived.Stop.LaidErr
import Derived.ChangeSame
import Derived.Lay
import Derived.Deep.Slices
section
namespace Go.Proofs.YtjlgiejggcbgbaaDoor
open Go.ChangeShapes Go.WideShapes Go.ChangeAt Go.RowKit

theorem own9 : ownKnob Tryd.prog.godebug = none := by kernel_rfl
theorem Tryd.laid0 : laidOutB Tryd.prog = true := by kernel_rfl
def laid9 : List (String × DataW Unit) := [("math/bits.deBruijn64tab", Rows.laid_math_bits_deBruijn64tab)]
theorem door_met9 (os : Os) (args : Array Value) : laidMetH Tryd.prog laid9 ((World.laidAll Tryd.prog os laid9).forCall (fun _ _ => 0) ⟨#[], args, []⟩).memory := by
  rw [MakeChecks.laidMetH_plain _ _ _ (by kernel_rfl)]
  exact laidMet_laidAll _ (by kernel_rfl) (by kernel_rfl)
theorem shaped9 (os : Os) : (World.laidAll Tryd.prog os laid9).Shaped Tryd.prog := World.shaped_of_ZipB (by kernel_rfl) (by kernel_rfl)
theorem tb_data9 : (Rows.laid_math_bits_deBruijn64tab : DataW Unit) = Lib.tabData .u8 (Lib.deBruijn64tab.map Int.ofNat) := by
  unfold Rows.laid_math_bits_deBruijn64tab Lib.tabData Lib.deBruijn64tab
  rfl
theorem tb_of_laid9 {W : World} (h : laidMetH Tryd.prog laid9 W) : Tb W := by
  rw [MakeChecks.laidMetH_plain _ _ _ (by kernel_rfl)] at h
  unfold laid9 at h
  rw [tb_data9] at h
  exact Lib.tabIs_of_head (g := 0) (t := 117) (e := 5) (n := 64) (by kernel_rfl) (by kernel_rfl) (by kernel_rfl) (by kernel_rfl) (by kernel_rfl) (by kernel_rfl) h
set_option maxRecDepth 100000 in
theorem open_int5d {H : Type} {enc : TypeId × Value → H} {W : World} {base : Nat} {sp : Nat → Bool} {held : Bool} {fuel : Nat} {c0 c1 c2 c3 c4 : Value} {y : DataW H × List MemPlace}
    (hf : DataW.trod enc Tryd.prog W base sp held fuel 33 [c0, c1, c2, c3, c4] = some y) :
    ∃ (g : Bool) (x : Nat), x < 2 ^ 256 ∧ c0 = .bool g ∧ c1 = .int .u64 (lb 0 x) ∧ c2 = .int .u64 (lb 1 x) ∧ c3 = .int .u64 (lb 2 x) ∧ c4 = .int .u64 (lb 3 x) := by
  have ht : Tryd.prog.underlying 33 = some (.struct #[{ name := "Neg", type := 4, offset := 0, embedded := false, tag := "", pkgPath := "", byteOffset := 0 }, { name := "N", type := 31, offset := 1, embedded := false, tag := "", pkgPath := "", byteOffset := 8 }]) := by kernel_rfl
  have htn : Tryd.prog.underlying 31 = some (.array 4 29) := by kernel_rfl
  have htb : Tryd.prog.underlying 4 = some .bool := by kernel_rfl
  have he : Tryd.prog.underlying 29 = some (.int .u64) := by kernel_rfl
  have hcb : Tryd.prog.cellsOf 4 = 1 := by kernel_rfl
  have hcn : Tryd.prog.cellsOf 31 = 4 := by kernel_rfl
  have hce : Tryd.prog.cellsOf 29 = 1 := by kernel_rfl
  obtain ⟨y0, y1, n, hx, _, h0, h1⟩ := trod_struct2 ht hf
  rw [hcb] at h0
  rw [hcn] at h1
  have h0' : DataW.trod enc Tryd.prog W base sp held n 4 [c0] = some y0 := h0
  have h1' : DataW.trod enc Tryd.prog W base sp held n 31 [c1, c2, c3, c4] = some y1 := h1
  obtain ⟨g, eg, rfl⟩ := DataW.trod_bool htb h0'
  obtain ⟨z0, z1, z2, z3, m, hy, k0, k1, k2, k3⟩ := trod_array4 htn hce h1'
  obtain ⟨a0, e0, rfl, w0⟩ := DataW.trod_int he k0
  obtain ⟨a1, e1, rfl, w1⟩ := DataW.trod_int he k1
  obtain ⟨a2, e2, rfl, w2⟩ := DataW.trod_int he k2
  obtain ⟨a3, e3, rfl, w3⟩ := DataW.trod_int he k3
  simp only [List.cons.injEq, and_true] at e0 e1 e2 e3 eg
  subst e0 e1 e2 e3 eg hy
  have wd : ∀ a : Int, (Lit.int .u64 a).wf = true → Word a := fun a h => by
    have := bounds_u64 h
    unfold Word; omega
  obtain ⟨x, hx1, _, l0, l1, l2, l3⟩ := nat_of (wd _ w0) (wd _ w1) (wd _ w2) (wd _ w3)
  exact ⟨g, x, hx1, rfl, by rw [l0], by rw [l1], by rw [l2], by rw [l3]⟩

set_option maxRecDepth 100000 in
/-- A span's twelve cells, read. -/
theorem open_rs {H : Type} {enc : TypeId × Value → H} {W : World} {base : Nat} {held : Bool} {fuel : Nat} {cs : List Value} {y : DataW H × List MemPlace}
    (h : DataW.trod enc Tryd.prog W base (fun _ => true) held fuel 35 cs = some y) : ∃ r : RS, cs = r.cells ∧ r.xl < 2 ^ 256 ∧ r.xh < 2 ^ 256 := by
  have ht : Tryd.prog.underlying 35 = some (.struct (Tryd.prog.fieldsOf 35)) := by kernel_rfl
  have hfl : (Tryd.prog.fieldsOf 35) = #[{ name := "HasLo", type := 4, offset := 0, embedded := false, tag := "", pkgPath := "", byteOffset := 0 }, { name := "HasHi", type := 4, offset := 1, embedded := false, tag := "", pkgPath := "", byteOffset := 1 }, { name := "Lo", type := 33, offset := 2, embedded := false, tag := "", pkgPath := "", byteOffset := 8 }, { name := "Hi", type := 33, offset := 7, embedded := false, tag := "", pkgPath := "", byteOffset := 48 }] := by kernel_rfl
  have hcS : Tryd.prog.cellsOf 35 = 12 := by kernel_rfl
  have hcI : Tryd.prog.cellsOf 33 = 5 := by kernel_rfl
  have hcb : Tryd.prog.cellsOf 4 = 1 := by kernel_rfl
  have hub : Tryd.prog.underlying 4 = some .bool := by kernel_rfl
  obtain ⟨xs, n1, rfl, _, hl, hlen, hf⟩ := DataW.trod_struct ht h
  rw [hcS] at hl
  rw [hfl] at hlen hf
  match cs, hl, xs, hlen with
  | [c0, c1, c2, c3, c4, c5, c6, c7, c8, c9, c10, c11], _, [y0, y1, y2, y3], _ =>
    have f0 : DataW.trod enc Tryd.prog W base (fun _ => true) held n1 4 (([c0, c1, c2, c3, c4, c5, c6, c7, c8, c9, c10, c11].drop 0).take (Tryd.prog.cellsOf 4)) = some y0 := hf 0 _ rfl
    have f1 : DataW.trod enc Tryd.prog W base (fun _ => true) held n1 4 (([c0, c1, c2, c3, c4, c5, c6, c7, c8, c9, c10, c11].drop 1).take (Tryd.prog.cellsOf 4)) = some y1 := hf 1 _ rfl
    have f2 : DataW.trod enc Tryd.prog W base (fun _ => true) held n1 33 (([c0, c1, c2, c3, c4, c5, c6, c7, c8, c9, c10, c11].drop 2).take (Tryd.prog.cellsOf 33)) = some y2 := hf 2 _ rfl
    have f3 : DataW.trod enc Tryd.prog W base (fun _ => true) held n1 33 (([c0, c1, c2, c3, c4, c5, c6, c7, c8, c9, c10, c11].drop 7).take (Tryd.prog.cellsOf 33)) = some y3 := hf 3 _ rfl
    rw [hcb] at f0 f1
    rw [hcI] at f2 f3
    have g0 : DataW.trod enc Tryd.prog W base (fun _ => true) held n1 4 [c0] = some y0 := f0
    have g1 : DataW.trod enc Tryd.prog W base (fun _ => true) held n1 4 [c1] = some y1 := f1
    have g2 : DataW.trod enc Tryd.prog W base (fun _ => true) held n1 33 [c2, c3, c4, c5, c6] = some y2 := f2
    have g3 : DataW.trod enc Tryd.prog W base (fun _ => true) held n1 33 [c7, c8, c9, c10, c11] = some y3 := f3
    clear f0 f1 f2 f3 hf
    obtain ⟨hl, e0, _⟩ := DataW.trod_bool hub g0
    obtain ⟨hh, e1, _⟩ := DataW.trod_bool hub g1
    obtain ⟨gl, xl, hxl, e2, e3, e4, e5, e6⟩ := open_int5d g2
    obtain ⟨gh, xh, hxh, e7, e8, e9, e10, e11⟩ := open_int5d g3
    simp only [List.cons.injEq, and_true] at e0 e1
    subst e0 e1 e2 e3 e4 e5 e6 e7 e8 e9 e10 e11
    exact ⟨⟨hl, hh, gl, xl, gh, xh⟩, rfl, hxl, hxh⟩
set_option maxRecDepth 100000 in
/-- A list of spans as a parameter, opened. -/
theorem open_spans {H : Type} {enc : TypeId × Value → H} {W : World} {base : Nat} {held : Bool} {r : Reach} {b : Nat} {v : Value} {d : DataW H} {p : List MemPlace}
    (hv : Value.okWide Tryd.prog W r b 22 v) (h : DataW.Trod enc Tryd.prog W base (fun _ => true) held 22 v d p) :
    ∃ (la : Option Addr) (lc : Nat) (l : List RS), v = .slice la l.length lc ∧ (∃ bb off, Ls W la l bb off) ∧ (l.length ≤ lc ∧ lc ≤ maxLen) ∧ ∀ r ∈ l, r.xl < 2 ^ 256 ∧ r.xh < 2 ^ 256 := by
  have huL : Tryd.prog.underlying 22 = some (.slice 35) := by kernel_rfl
  have hcV : Tryd.prog.cellsOf 35 = 12 := by kernel_rfl
  obtain ⟨a0, len0, cap0, rfl⟩ := okWide_slice huL hv
  obtain ⟨fuel, hf⟩ := h
  have g4 : DataW.trod enc Tryd.prog W base (fun _ => true) held fuel 22 [.slice a0 len0 cap0] = some (d, p) := by simpa [Value.cells] using hf
  rcases DataW.trod_slice huL g4 with ⟨h1, _⟩ | ⟨a, len, cap, elems, rest, n, _, h1, _, hb, hl, hm, hlen, hel, _, _⟩
  · simp only [List.cons.injEq, and_true] at h1
    exact ⟨none, 0, [], h1, ⟨0, 0, Ls.nil _ _⟩, ⟨by simp, (by unfold maxLen; omega)⟩, fun r h => (by cases h)⟩
  · simp only [List.cons.injEq, and_true] at h1
    rw [hcV] at hel
    have hV : ∀ i, i < len → ∃ T : RS, (∀ j u, T.cells[j]? = some u → W.cell? ((a.add (i * 12)).add j) = some u) ∧ T.xl < 2 ^ 256 ∧ T.xh < 2 ^ 256 := fun i hi => by
      have h2 := hel i hi
      rw [List.getElem?_eq_getElem (by omega)] at h2
      obtain ⟨cs', h3, h4⟩ := Option.bind_eq_some_iff.1 h2
      obtain ⟨T, rfl, hT⟩ := open_rs h4
      obtain ⟨_, hl3, h5⟩ := World.cells?_some h3
      exact ⟨T, fun j u hu => (h5 j (by have := (List.getElem?_eq_some_iff.1 hu).1; omega)).trans hu, hT⟩
    have hV' : ∀ i, i < len → ∃ T : Bool × Bool × Bool × Nat × Bool × Nat, (∀ j u, (RS.mk T.1 T.2.1 T.2.2.1 T.2.2.2.1 T.2.2.2.2.1 T.2.2.2.2.2).cells[j]? = some u → W.cell? ((a.add (i * 12)).add j) = some u) ∧ T.2.2.2.1 < 2 ^ 256 ∧ T.2.2.2.2.2 < 2 ^ 256 := fun i hi => by
      obtain ⟨⟨a1, a2, a3, a4, a5, a6⟩, h⟩ := hV i hi
      exact ⟨(a1, a2, a3, a4, a5, a6), h⟩
    obtain ⟨f, hf⟩ := Go.Deep.choose_lt (α := Bool × Bool × Bool × Nat × Bool × Nat) hV'
    refine ⟨some a, cap, (List.range len).map (fun i => RS.mk (f i).1 (f i).2.1 (f i).2.2.1 (f i).2.2.2.1 (f i).2.2.2.2.1 (f i).2.2.2.2.2), by simpa using h1, ?_, ⟨by simpa using hl, hm⟩, fun t h => ?_⟩
    · rcases Nat.eq_zero_or_pos len with h0 | h0
      · subst h0
        exact ⟨0, 0, ⟨fun h => absurd h (by simp), fun i s h => by simp at h, by simp⟩⟩
      · obtain ⟨b', off, spot⟩ := a
        have hspot : spot = none := by
          have := World.cell?_spot ((hf 0 h0).1 0 _ rfl)
          simpa [Addr.add] using this
        subst hspot
        refine ⟨b', off, ⟨fun _ => rfl, fun i t h => ?_, by have := hl; have := hm; unfold maxLen at this; simp; omega⟩⟩
        have hi : i < len := by
          have := (List.getElem?_eq_some_iff.1 h).1
          simpa using this
        have ht : RS.mk (f i).1 (f i).2.1 (f i).2.2.1 (f i).2.2.2.1 (f i).2.2.2.2.1 (f i).2.2.2.2.2 = t := by simpa [hi] using h
        subst ht
        have hc := (hf i hi).1
        simp only [Go.WideShapes.add_plain] at hc
        exact hc
    · obtain ⟨i, hi, rfl⟩ := List.mem_map.1 h
      exact (hf i (by simpa using hi)).2
theorem trod_lt9 {H : Type} {enc : TypeId × Value → H} {P : Program} {W : World} {base : Nat} {sp : Nat → Bool} {held : Bool} {t : TypeId} {v : Value} {d : DataW H} {p : List MemPlace}
    (h : DataW.Trod enc P W base sp held t v d p) : ∀ x ∈ p, x.block < W.heap.size := by
  obtain ⟨fuel, hf⟩ := h
  exact DataW.trod_lt fuel _ _ _ hf
end Go.Proofs.YtjlgiejggcbgbaaDoor
end
section
namespace Go.Proofs.YtjlgiejggcbgbaaDoor
open Go.ChangeShapes Go.WideShapes Go.ChangeAt Go.RowKit

theorem wf_lb (i x : Nat) : (Lit.int .u64 (lb i x)).wf = true := by
  have := lb_word i x
  unfold Word at this
  exact WalkArith.wf_u64 ⟨this.1, by omega⟩
set_option maxRecDepth 100000 in
theorem open_int5 {H : Type} {enc : TypeId × Value → H} {W : World} {base : Nat} {sp : Nat → Bool} {held : Bool} {r : Reach} {b : Nat} {v : Value} {d : DataW H} {p : List MemPlace}
    (hv : Value.okWide Tryd.prog W r b 33 v) (h : DataW.Trod enc Tryd.prog W base sp held 33 v d p) :
    ∃ (g : Bool) (x : Nat), x < 2 ^ 256 ∧ v = I5 g x ∧ d = .agg [.lit (.bool g), .agg [.lit (.int .u64 (lb 0 x)), .lit (.int .u64 (lb 1 x)), .lit (.int .u64 (lb 2 x)), .lit (.int .u64 (lb 3 x))]] ∧ p = [] := by
  have ht : Tryd.prog.underlying 33 = some (.struct #[{ name := "Neg", type := 4, offset := 0, embedded := false, tag := "", pkgPath := "", byteOffset := 0 }, { name := "N", type := 31, offset := 1, embedded := false, tag := "", pkgPath := "", byteOffset := 8 }]) := by kernel_rfl
  have htn : Tryd.prog.underlying 31 = some (.array 4 29) := by kernel_rfl
  have htb : Tryd.prog.underlying 4 = some .bool := by kernel_rfl
  have he : Tryd.prog.underlying 29 = some (.int .u64) := by kernel_rfl
  have hc : Tryd.prog.cellsOf 33 = 5 := by kernel_rfl
  have hcb : Tryd.prog.cellsOf 4 = 1 := by kernel_rfl
  have hcn : Tryd.prog.cellsOf 31 = 4 := by kernel_rfl
  have hce : Tryd.prog.cellsOf 29 = 1 := by kernel_rfl
  simp only [Value.okWide, ht] at hv
  obtain ⟨cs, rfl, hsz, _⟩ := hv
  rw [hc] at hsz
  obtain ⟨l⟩ := cs
  match l, hsz with
  | [c0, c1, c2, c3, c4], _ =>
    obtain ⟨fuel, hf⟩ := h
    obtain ⟨y0, y1, n, hx, _, h0, h1⟩ := trod_struct2 ht hf
    rw [hcb] at h0
    rw [hcn] at h1
    have h0' : DataW.trod enc Tryd.prog W base sp held n 4 [c0] = some y0 := h0
    have h1' : DataW.trod enc Tryd.prog W base sp held n 31 [c1, c2, c3, c4] = some y1 := h1
    obtain ⟨g, eg, rfl⟩ := DataW.trod_bool htb h0'
    obtain ⟨z0, z1, z2, z3, m, hy, k0, k1, k2, k3⟩ := trod_array4 htn hce h1'
    obtain ⟨a0, e0, rfl, w0⟩ := DataW.trod_int he k0
    obtain ⟨a1, e1, rfl, w1⟩ := DataW.trod_int he k1
    obtain ⟨a2, e2, rfl, w2⟩ := DataW.trod_int he k2
    obtain ⟨a3, e3, rfl, w3⟩ := DataW.trod_int he k3
    simp only [List.cons.injEq, and_true] at e0 e1 e2 e3 eg
    subst e0 e1 e2 e3 eg hy
    simp only [Prod.mk.injEq] at hx
    have wd : ∀ a : Int, (Lit.int .u64 a).wf = true → Word a := fun a h => by
      have := bounds_u64 h
      unfold Word; omega
    obtain ⟨x, hx1, _, l0, l1, l2, l3⟩ := nat_of (wd _ w0) (wd _ w1) (wd _ w2) (wd _ w3)
    refine ⟨g, x, hx1, ?_, ?_, ?_⟩
    · unfold I5; rw [l0, l1, l2, l3]
    · rw [hx.1, l0, l1, l2, l3]
    · rw [hx.2]; rfl
set_option maxRecDepth 100000 in
theorem shut_int5 {H : Type} {enc : TypeId × Value → H} {W : World} {base : Nat} {sp : Nat → Bool} {held : Bool} (g : Bool) (x : Nat) :
    DataW.Trod enc Tryd.prog W base sp held 33 (I5 g x) (.agg [.lit (.bool g), .agg [.lit (.int .u64 (lb 0 x)), .lit (.int .u64 (lb 1 x)), .lit (.int .u64 (lb 2 x)), .lit (.int .u64 (lb 3 x))]]) [] := by
  have ht : Tryd.prog.underlying 33 = some (.struct #[{ name := "Neg", type := 4, offset := 0, embedded := false, tag := "", pkgPath := "", byteOffset := 0 }, { name := "N", type := 31, offset := 1, embedded := false, tag := "", pkgPath := "", byteOffset := 8 }]) := by kernel_rfl
  have htn : Tryd.prog.underlying 31 = some (.array 4 29) := by kernel_rfl
  have htb : Tryd.prog.underlying 4 = some .bool := by kernel_rfl
  have he : Tryd.prog.underlying 29 = some (.int .u64) := by kernel_rfl
  have hc : Tryd.prog.cellsOf 33 = 5 := by kernel_rfl
  have hcb : Tryd.prog.cellsOf 4 = 1 := by kernel_rfl
  have hcn : Tryd.prog.cellsOf 31 = 4 := by kernel_rfl
  have hce : Tryd.prog.cellsOf 29 = 1 := by kernel_rfl
  refine ⟨3, ?_⟩
  have r4 : List.range 4 = [0, 1, 2, 3] := rfl
  have h0 : DataW.trod enc Tryd.prog W base sp held 2 4 [.bool g] = some (.lit (.bool g), []) := by simp [DataW.trod, htb]
  have h1 : DataW.trod enc Tryd.prog W base sp held 2 31 [.int .u64 (lb 0 x), .int .u64 (lb 1 x), .int .u64 (lb 2 x), .int .u64 (lb 3 x)] = some (.agg [.lit (.int .u64 (lb 0 x)), .lit (.int .u64 (lb 1 x)), .lit (.int .u64 (lb 2 x)), .lit (.int .u64 (lb 3 x))], []) := by
    simp [DataW.trod, htn, he, hcn, hce, r4, wf_lb]
  exact trod_struct2_mk (y0 := (.lit (.bool g), [])) (y1 := (.agg [.lit (.int .u64 (lb 0 x)), .lit (.int .u64 (lb 1 x)), .lit (.int .u64 (lb 2 x)), .lit (.int .u64 (lb 3 x))], [])) ht (by rw [hc]; rfl) (by rw [hcb]; exact h0) (by rw [hcn]; exact h1)

/-- A slice of ints that is there. -/
def IntsAt (w : World) (v : Value) (zs : List Int) : Prop :=
  (∃ A cap, v = .slice A 0 cap ∧ zs = []) ∨ ∃ b off cap, v = .slice (some ⟨b, off, none⟩) zs.length cap ∧ 0 < zs.length ∧ ∀ i, i < zs.length → w.cell? ⟨b, off + i, none⟩ = some (.int .i64 (zs.getD i 0))
end Go.Proofs.YtjlgiejggcbgbaaDoor
end
