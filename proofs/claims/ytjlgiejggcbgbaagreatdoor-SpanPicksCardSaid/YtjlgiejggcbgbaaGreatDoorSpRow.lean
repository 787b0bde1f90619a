/-
  What the rows of stage 9's seats share: the one listed table as the walks ask for it, a start that lays it; a list of spans as a parameter, opened.
-/
import Derived.Test.YtjlgiejggcbgbaaGreatDoorRows
import Derived.Test.YtjlgiejggcbgbaaGreatDoorNatTrail
import Derived.Test.YtjlgiejggcbgbaaGreatDoorSpMem
import Derived.WalkKit
import Derived.ProofKit
import Derived.LaidMore
import Derived.OpenShut
import Derived.Carry
import Derived.ChangeSlices
import Derived.Laws.IdiomArrays
import Derived.Stop.Joined
import Derived.Stop.LaidErr
import Derived.ChangeSame
import Derived.Lay
import Derived.Deep.Slices
namespace Go.Proofs.YtjlgiejggcbgbaaGreatDoor
open Go.ChangeShapes Go.WideShapes Go.ChangeAt Go.RowKit

theorem own9 : ownKnob Tryz.prog.godebug = none := by kernel_rfl
theorem Tryz.laid0 : laidOutB Tryz.prog = true := by kernel_rfl
def laid9 : List (String × DataW Unit) := [("math/bits.deBruijn64tab", Rows.laid_math_bits_deBruijn64tab)]
theorem door_met9 (os : Os) (args : Array Value) : laidMetH Tryz.prog laid9 ((World.laidAll Tryz.prog os laid9).forCall (fun _ _ => 0) ⟨#[], args, []⟩).memory := by
  rw [MakeChecks.laidMetH_plain _ _ _ (by kernel_rfl)]
  exact laidMet_laidAll _ (by kernel_rfl) (by kernel_rfl)
theorem shaped9 (os : Os) : (World.laidAll Tryz.prog os laid9).Shaped Tryz.prog := World.shaped_of_ZipB (by kernel_rfl) (by kernel_rfl)
theorem tb_data9 : (Rows.laid_math_bits_deBruijn64tab : DataW Unit) = Lib.tabData .u8 (Lib.deBruijn64tab.map Int.ofNat) := by
  unfold Rows.laid_math_bits_deBruijn64tab Lib.tabData Lib.deBruijn64tab
  rfl
theorem tb_of_laid9 {W : World} (h : laidMetH Tryz.prog laid9 W) : Tb W := by
  rw [MakeChecks.laidMetH_plain _ _ _ (by kernel_rfl)] at h
  unfold laid9 at h
  rw [tb_data9] at h
  exact Lib.tabIs_of_head (g := 0) (t := 121) (e := 5) (n := 64) (by kernel_rfl) (by kernel_rfl) (by kernel_rfl) (by kernel_rfl) (by kernel_rfl) (by kernel_rfl) h
set_option maxRecDepth 100000 in
theorem open_int5d {H : Type} {enc : TypeId × Value → H} {W : World} {base : Nat} {sp : Nat → Bool} {held : Bool} {fuel : Nat} {c0 c1 c2 c3 c4 : Value} {y : DataW H × List MemPlace}
    (hf : DataW.trod enc Tryz.prog W base sp held fuel 29 [c0, c1, c2, c3, c4] = some y) :
    ∃ (g : Bool) (x : Nat), x < 2 ^ 256 ∧ c0 = .bool g ∧ c1 = .int .u64 (lb 0 x) ∧ c2 = .int .u64 (lb 1 x) ∧ c3 = .int .u64 (lb 2 x) ∧ c4 = .int .u64 (lb 3 x) := by
  have ht : Tryz.prog.underlying 29 = some (.struct #[{ name := "Neg", type := 4, offset := 0, embedded := false, tag := "", pkgPath := "", byteOffset := 0 }, { name := "N", type := 27, offset := 1, embedded := false, tag := "", pkgPath := "", byteOffset := 8 }]) := by kernel_rfl
  have htn : Tryz.prog.underlying 27 = some (.array 4 25) := by kernel_rfl
  have htb : Tryz.prog.underlying 4 = some .bool := by kernel_rfl
  have he : Tryz.prog.underlying 25 = some (.int .u64) := by kernel_rfl
  have hcb : Tryz.prog.cellsOf 4 = 1 := by kernel_rfl
  have hcn : Tryz.prog.cellsOf 27 = 4 := by kernel_rfl
  have hce : Tryz.prog.cellsOf 25 = 1 := by kernel_rfl
  obtain ⟨y0, y1, n, hx, _, h0, h1⟩ := trod_struct2 ht hf
  rw [hcb] at h0
  rw [hcn] at h1
  have h0' : DataW.trod enc Tryz.prog W base sp held n 4 [c0] = some y0 := h0
  have h1' : DataW.trod enc Tryz.prog W base sp held n 27 [c1, c2, c3, c4] = some y1 := h1
  obtain ⟨g, eg, rfl⟩ := DataW.trod_bool htb h0'
  obtain ⟨z0, z1, z2, z3, m, hy, k0, k1, k2, k3⟩ := trod_array4 htn hce h1'
  obtain ⟨a0, e0, rfl, w0⟩ := DataW.trod_int he k0
  obtain ⟨a1, e1, rfl, w1⟩ := DataW.trod_int he k1
  obtain ⟨a2, e2, rfl, w2⟩ := DataW.trod_int he k2
  obtain ⟨a3, e3, rfl, w3⟩ := DataW.trod_int he k3
  simp only [List.cons.injEq, and_true] at e0 e1 e2 e3 eg
  subst e0 e1 e2 e3 eg hy
  have wd : ∀ a : Int, (Lit.int .u64 a).wf = true → Word a := fun a h => by
    have := bounds_u64 h
    unfold Word; omega
  obtain ⟨x, hx1, _, l0, l1, l2, l3⟩ := nat_of (wd _ w0) (wd _ w1) (wd _ w2) (wd _ w3)
  exact ⟨g, x, hx1, rfl, by rw [l0], by rw [l1], by rw [l2], by rw [l3]⟩

set_option maxRecDepth 100000 in
/-- A span's twelve cells, read. -/
theorem open_rs {H : Type} {enc : TypeId × Value → H} {W : World} {base : Nat} {held : Bool} {fuel : Nat} {cs : List Value} {y : DataW H × List MemPlace}
    (h : DataW.trod enc Tryz.prog W base (fun _ => true) held fuel 37 cs = some y) : ∃ r : RS, cs = r.cells ∧ r.xl < 2 ^ 256 ∧ r.xh < 2 ^ 256 := by
  have ht : Tryz.prog.underlying 37 = some (.struct (Tryz.prog.fieldsOf 37)) := by kernel_rfl
  have hfl : (Tryz.prog.fieldsOf 37) = #[{ name := "HasLo", type := 4, offset := 0, embedded := false, tag := "", pkgPath := "", byteOffset := 0 }, { name := "HasHi", type := 4, offset := 1, embedded := false, tag := "", pkgPath := "", byteOffset := 1 }, { name := "Lo", type := 29, offset := 2, embedded := false, tag := "", pkgPath := "", byteOffset := 8 }, { name := "Hi", type := 29, offset := 7, embedded := false, tag := "", pkgPath := "", byteOffset := 48 }] := by kernel_rfl
  have hcS : Tryz.prog.cellsOf 37 = 12 := by kernel_rfl
  have hcI : Tryz.prog.cellsOf 29 = 5 := by kernel_rfl
  have hcb : Tryz.prog.cellsOf 4 = 1 := by kernel_rfl
  have hub : Tryz.prog.underlying 4 = some .bool := by kernel_rfl
  obtain ⟨xs, n1, rfl, _, hl, hlen, hf⟩ := DataW.trod_struct ht h
  rw [hcS] at hl
  rw [hfl] at hlen hf
  match cs, hl, xs, hlen with
  | [c0, c1, c2, c3, c4, c5, c6, c7, c8, c9, c10, c11], _, [y0, y1, y2, y3], _ =>
    have f0 : DataW.trod enc Tryz.prog W base (fun _ => true) held n1 4 (([c0, c1, c2, c3, c4, c5, c6, c7, c8, c9, c10, c11].drop 0).take (Tryz.prog.cellsOf 4)) = some y0 := hf 0 _ rfl
    have f1 : DataW.trod enc Tryz.prog W base (fun _ => true) held n1 4 (([c0, c1, c2, c3, c4, c5, c6, c7, c8, c9, c10, c11].drop 1).take (Tryz.prog.cellsOf 4)) = some y1 := hf 1 _ rfl
    have f2 : DataW.trod enc Tryz.prog W base (fun _ => true) held n1 29 (([c0, c1, c2, c3, c4, c5, c6, c7, c8, c9, c10, c11].drop 2).take (Tryz.prog.cellsOf 29)) = some y2 := hf 2 _ rfl
    have f3 : DataW.trod enc Tryz.prog W base (fun _ => true) held n1 29 (([c0, c1, c2, c3, c4, c5, c6, c7, c8, c9, c10, c11].drop 7).take (Tryz.prog.cellsOf 29)) = some y3 := hf 3 _ rfl
    rw [hcb] at f0 f1
    rw [hcI] at f2 f3
    have g0 : DataW.trod enc Tryz.prog W base (fun _ => true) held n1 4 [c0] = some y0 := f0
    have g1 : DataW.trod enc Tryz.prog W base (fun _ => true) held n1 4 [c1] = some y1 := f1
    have g2 : DataW.trod enc Tryz.prog W base (fun _ => true) held n1 29 [c2, c3, c4, c5, c6] = some y2 := f2
    have g3 : DataW.trod enc Tryz.prog W base (fun _ => true) held n1 29 [c7, c8, c9, c10, c11] = some y3 := f3
    clear f0 f1 f2 f3 hf
    obtain ⟨hl, e0, _⟩ := DataW.trod_bool hub g0
    obtain ⟨hh, e1, _⟩ := DataW.trod_bool hub g1
    obtain ⟨gl, xl, hxl, e2, e3, e4, e5, e6⟩ := open_int5d g2
    obtain ⟨gh, xh, hxh, e7, e8, e9, e10, e11⟩ := open_int5d g3
    simp only [List.cons.injEq, and_true] at e0 e1
    subst e0 e1 e2 e3 e4 e5 e6 e7 e8 e9 e10 e11
    exact ⟨⟨hl, hh, gl, xl, gh, xh⟩, rfl, hxl, hxh⟩
set_option maxRecDepth 100000 in
/-- A list of spans as a parameter, opened. -/
theorem open_spans {H : Type} {enc : TypeId × Value → H} {W : World} {base : Nat} {held : Bool} {r : Reach} {b : Nat} {v : Value} {d : DataW H} {p : List MemPlace}
    (hv : Value.okWide Tryz.prog W r b 22 v) (h : DataW.Trod enc Tryz.prog W base (fun _ => true) held 22 v d p) :
    ∃ (la : Option Addr) (lc : Nat) (l : List RS), v = .slice la l.length lc ∧ (∃ bb off, Ls W la l bb off) ∧ (l.length ≤ lc ∧ lc ≤ maxLen) ∧ ∀ r ∈ l, r.xl < 2 ^ 256 ∧ r.xh < 2 ^ 256 := by
  have huL : Tryz.prog.underlying 22 = some (.slice 37) := by kernel_rfl
  have hcV : Tryz.prog.cellsOf 37 = 12 := by kernel_rfl
  obtain ⟨a0, len0, cap0, rfl⟩ := okWide_slice huL hv
  obtain ⟨fuel, hf⟩ := h
  have g4 : DataW.trod enc Tryz.prog W base (fun _ => true) held fuel 22 [.slice a0 len0 cap0] = some (d, p) := by simpa [Value.cells] using hf
  rcases DataW.trod_slice huL g4 with ⟨h1, _⟩ | ⟨a, len, cap, elems, rest, n, _, h1, _, hb, hl, hm, hlen, hel, _, _⟩
  · simp only [List.cons.injEq, and_true] at h1
    exact ⟨none, 0, [], h1, ⟨0, 0, Ls.nil _ _⟩, ⟨by simp, (by unfold maxLen; omega)⟩, fun r h => (by cases h)⟩
  · simp only [List.cons.injEq, and_true] at h1
    rw [hcV] at hel
    have hV : ∀ i, i < len → ∃ T : RS, (∀ j u, T.cells[j]? = some u → W.cell? ((a.add (i * 12)).add j) = some u) ∧ T.xl < 2 ^ 256 ∧ T.xh < 2 ^ 256 := fun i hi => by
      have h2 := hel i hi
      rw [List.getElem?_eq_getElem (by omega)] at h2
      obtain ⟨cs', h3, h4⟩ := Option.bind_eq_some_iff.1 h2
      obtain ⟨T, rfl, hT⟩ := open_rs h4
      obtain ⟨_, hl3, h5⟩ := World.cells?_some h3
      exact ⟨T, fun j u hu => (h5 j (by have := (List.getElem?_eq_some_iff.1 hu).1; omega)).trans hu, hT⟩
    have hV' : ∀ i, i < len → ∃ T : Bool × Bool × Bool × Nat × Bool × Nat, (∀ j u, (RS.mk T.1 T.2.1 T.2.2.1 T.2.2.2.1 T.2.2.2.2.1 T.2.2.2.2.2).cells[j]? = some u → W.cell? ((a.add (i * 12)).add j) = some u) ∧ T.2.2.2.1 < 2 ^ 256 ∧ T.2.2.2.2.2 < 2 ^ 256 := fun i hi => by
      obtain ⟨⟨a1, a2, a3, a4, a5, a6⟩, h⟩ := hV i hi
      exact ⟨(a1, a2, a3, a4, a5, a6), h⟩
    obtain ⟨f, hf⟩ := Go.Deep.choose_lt (α := Bool × Bool × Bool × Nat × Bool × Nat) hV'
    refine ⟨some a, cap, (List.range len).map (fun i => RS.mk (f i).1 (f i).2.1 (f i).2.2.1 (f i).2.2.2.1 (f i).2.2.2.2.1 (f i).2.2.2.2.2), by simpa using h1, ?_, ⟨by simpa using hl, hm⟩, fun t h => ?_⟩
    · rcases Nat.eq_zero_or_pos len with h0 | h0
      · subst h0
        exact ⟨0, 0, ⟨fun h => absurd h (by simp), fun i s h => by simp at h, by simp⟩⟩
      · obtain ⟨b', off, spot⟩ := a
        have hspot : spot = none := by
          have := World.cell?_spot ((hf 0 h0).1 0 _ rfl)
          simpa [Addr.add] using this
        subst hspot
        refine ⟨b', off, ⟨fun _ => rfl, fun i t h => ?_, by have := hl; have := hm; unfold maxLen at this; simp; omega⟩⟩
        have hi : i < len := by
          have := (List.getElem?_eq_some_iff.1 h).1
          simpa using this
        have ht : RS.mk (f i).1 (f i).2.1 (f i).2.2.1 (f i).2.2.2.1 (f i).2.2.2.2.1 (f i).2.2.2.2.2 = t := by simpa [hi] using h
        subst ht
        have hc := (hf i hi).1
        simp only [Go.WideShapes.add_plain] at hc
        exact hc
    · obtain ⟨i, hi, rfl⟩ := List.mem_map.1 h
      exact (hf i (by simpa using hi)).2
theorem trod_lt9 {H : Type} {enc : TypeId × Value → H} {P : Program} {W : World} {base : Nat} {sp : Nat → Bool} {held : Bool} {t : TypeId} {v : Value} {d : DataW H} {p : List MemPlace}
    (h : DataW.Trod enc P W base sp held t v d p) : ∀ x ∈ p, x.block < W.heap.size := by
  obtain ⟨fuel, hf⟩ := h
  exact DataW.trod_lt fuel _ _ _ hf
end Go.Proofs.YtjlgiejggcbgbaaGreatDoor
