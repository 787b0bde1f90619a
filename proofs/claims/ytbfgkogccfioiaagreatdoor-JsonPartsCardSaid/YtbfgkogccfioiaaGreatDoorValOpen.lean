/-
  A value as a parameter, opened: it is a tree that lies in memory.
-/
import Derived.Test.YtbfgkogccfioiaaGreatDoorValTree
import Derived.WalkKit
import Derived.ProofKit
import Derived.OpenShut
import Derived.Carry
import Derived.ChangeSlices
import Derived.ChangeSame
import Derived.Laws.IdiomArrays
namespace Go.Proofs.YtbfgkogccfioiaaGreatDoor
open Go.ChangeShapes Go.WideShapes Go.ChangeAt Go.RowKit

set_option maxRecDepth 100000 in
theorem open_int5c {H : Type} {enc : TypeId × Value → H} {W : World} {base : Nat} {sp : Nat → Bool} {held : Bool} {fuel : Nat} {c0 c1 c2 c3 c4 : Value} {y : DataW H × List MemPlace}
    (hf : DataW.trod enc Tryz.prog W base sp held fuel 26 [c0, c1, c2, c3, c4] = some y) :
    ∃ (g : Bool) (x : Nat), x < 2 ^ 256 ∧ c0 = .bool g ∧ c1 = .int .u64 (lb 0 x) ∧ c2 = .int .u64 (lb 1 x) ∧ c3 = .int .u64 (lb 2 x) ∧ c4 = .int .u64 (lb 3 x) := by
  have ht : Tryz.prog.underlying 26 = some (.struct #[{ name := "Neg", type := 4, offset := 0, embedded := false, tag := "", pkgPath := "", byteOffset := 0 }, { name := "N", type := 24, offset := 1, embedded := false, tag := "", pkgPath := "", byteOffset := 8 }]) := by kernel_rfl
  have htn : Tryz.prog.underlying 24 = some (.array 4 22) := by kernel_rfl
  have htb : Tryz.prog.underlying 4 = some .bool := by kernel_rfl
  have he : Tryz.prog.underlying 22 = some (.int .u64) := by kernel_rfl
  have hcb : Tryz.prog.cellsOf 4 = 1 := by kernel_rfl
  have hcn : Tryz.prog.cellsOf 24 = 4 := by kernel_rfl
  have hce : Tryz.prog.cellsOf 22 = 1 := by kernel_rfl
  obtain ⟨y0, y1, n, hx, _, h0, h1⟩ := trod_struct2 ht hf
  rw [hcb] at h0
  rw [hcn] at h1
  have h0' : DataW.trod enc Tryz.prog W base sp held n 4 [c0] = some y0 := h0
  have h1' : DataW.trod enc Tryz.prog W base sp held n 24 [c1, c2, c3, c4] = some y1 := h1
  obtain ⟨g, eg, rfl⟩ := DataW.trod_bool htb h0'
  obtain ⟨z0, z1, z2, z3, m, hy, k0, k1, k2, k3⟩ := trod_array4 htn hce h1'
  obtain ⟨a0, e0, rfl, w0⟩ := DataW.trod_int he k0
  obtain ⟨a1, e1, rfl, w1⟩ := DataW.trod_int he k1
  obtain ⟨a2, e2, rfl, w2⟩ := DataW.trod_int he k2
  obtain ⟨a3, e3, rfl, w3⟩ := DataW.trod_int he k3
  simp only [List.cons.injEq, and_true] at e0 e1 e2 e3 eg
  subst e0 e1 e2 e3 eg hy
  have wd : ∀ a : Int, (Lit.int .u64 a).wf = true → Word a := fun a h => by
    have := bounds_u64 h
    unfold Word; omega
  obtain ⟨x, hx1, _, l0, l1, l2, l3⟩ := nat_of (wd _ w0) (wd _ w1) (wd _ w2) (wd _ w3)
  exact ⟨g, x, hx1, rfl, by rw [l0], by rw [l1], by rw [l2], by rw [l3]⟩

set_option maxRecDepth 100000 in
/-- A slice of texts, opened. -/
theorem open_keys {H : Type} {enc : TypeId × Value → H} {W : World} {base : Nat} {held : Bool} {fuel : Nat} {c : Value} {y : DataW H × List MemPlace}
    (h : DataW.trod enc Tryz.prog W base (fun _ => true) held fuel 28 [c] = some y) :
    ∃ (ka : Option Addr) (kcap : Nat) (keys : List ByteArray), c = .slice ka keys.length kcap ∧ KeysAt W ka keys ∧ keys.length ≤ kcap ∧ kcap ≤ maxLen ∧ ∀ s ∈ keys, s.size ≤ maxLen := by
  have ht : Tryz.prog.underlying 28 = some (.slice 9) := by kernel_rfl
  have hs : Tryz.prog.underlying 9 = some .string := by kernel_rfl
  have hc : Tryz.prog.cellsOf 9 = 1 := by kernel_rfl
  rcases Go.Deep.open_slice1 ht hc h with ⟨h1, _⟩ | ⟨a, len, cap, m, n, V, D, Pl, h1, hb, hl, hm, hmm, _, hx⟩
  · simp only [List.cons.injEq, and_true] at h1
    exact ⟨none, 0, [], h1, ⟨0, 0, fun h => absurd h (by simp), fun i s h => by simp at h⟩, by simp, by unfold maxLen; omega, fun s h => by cases h⟩
  · simp only [List.cons.injEq, and_true] at h1
    simp only [if_true] at hmm
    subst hmm
    have hV : ∀ i, i < len → ∃ s : ByteArray, V i = .string s ∧ s.size ≤ maxLen := fun i hi => by
      obtain ⟨s, e, _, hz⟩ := DataW.trod_string hs (hx i (by omega)).2
      simp only [List.cons.injEq, and_true] at e
      exact ⟨s, e, hz⟩
    obtain ⟨f, hf⟩ := Go.Deep.choose_lt (α := ByteArray) hV
    refine ⟨some a, m, (List.range len).map f, by simpa using h1, ?_, by simpa using hl, hm, fun s h => ?_⟩
    · rcases Nat.eq_zero_or_pos len with h0 | h0
      · subst h0
        exact ⟨0, 0, fun h => absurd h (by simp), fun i s h => by simp at h⟩
      · obtain ⟨b, off, spot⟩ := a
        have hspot : spot = none := by simpa [Addr.add] using World.cell?_spot (hx 0 (by omega)).1
        subst hspot
        refine ⟨b, off, fun _ => rfl, fun i s h => ?_⟩
        have hi : i < len := by
          have := (List.getElem?_eq_some_iff.1 h).1
          simpa using this
        have := (hx i (by omega)).1
        rw [Go.WideShapes.add_plain] at this
        rw [this, (hf i hi).1]
        simp [hi] at h
        rw [h]
    · obtain ⟨i, hi, rfl⟩ := List.mem_map.1 h
      exact (hf i (by simpa using hi)).2

set_option maxRecDepth 100000 in
/-- A value's ten cells, read, are a tree. -/
theorem open_vt {H : Type} {enc : TypeId × Value → H} {W : World} {base : Nat} {held : Bool} : ∀ (fuel : Nat) (cs : List Value) (y : DataW H × List MemPlace),
    DataW.trod enc Tryz.prog W base (fun _ => true) held fuel 30 cs = some y → ∃ T : VT, cs = T.cells ∧ T.In W := by
  have ht : Tryz.prog.underlying 30 = some (.struct (Tryz.prog.fieldsOf 30)) := by kernel_rfl
  have hfl : (Tryz.prog.fieldsOf 30) = #[{ name := "Kind", type := 3, offset := 0, embedded := false, tag := "", pkgPath := "", byteOffset := 0 }, { name := "Int", type := 26, offset := 1, embedded := false, tag := "", pkgPath := "", byteOffset := 8 }, { name := "Bits", type := 22, offset := 6, embedded := false, tag := "", pkgPath := "", byteOffset := 48 }, { name := "Text", type := 9, offset := 7, embedded := false, tag := "", pkgPath := "", byteOffset := 56 }, { name := "List", type := 27, offset := 8, embedded := false, tag := "", pkgPath := "", byteOffset := 72 }, { name := "Keys", type := 28, offset := 9, embedded := false, tag := "", pkgPath := "", byteOffset := 96 }] := by kernel_rfl
  have hcV : Tryz.prog.cellsOf 30 = 10 := by kernel_rfl
  have hcI : Tryz.prog.cellsOf 26 = 5 := by kernel_rfl
  have hci : Tryz.prog.cellsOf 3 = 1 := by kernel_rfl
  have hcu : Tryz.prog.cellsOf 22 = 1 := by kernel_rfl
  have hcs : Tryz.prog.cellsOf 9 = 1 := by kernel_rfl
  have hcL : Tryz.prog.cellsOf 27 = 1 := by kernel_rfl
  have hcK : Tryz.prog.cellsOf 28 = 1 := by kernel_rfl
  have hui : Tryz.prog.underlying 3 = some (.int .i64) := by kernel_rfl
  have huu : Tryz.prog.underlying 22 = some (.int .u64) := by kernel_rfl
  have hus : Tryz.prog.underlying 9 = some .string := by kernel_rfl
  have huL : Tryz.prog.underlying 27 = some (.slice 30) := by kernel_rfl
  intro fuel
  induction fuel using Nat.strongRecOn with
  | ind fuel ih =>
    intro cs y h
    obtain ⟨xs, n1, rfl, _, hl, hlen, hf⟩ := DataW.trod_struct ht h
    rw [hcV] at hl
    rw [hfl] at hlen hf
    match cs, hl, xs, hlen with
    | [c0, c1, c2, c3, c4, c5, c6, c7, c8, c9], _, [y0, y1, y2, y3, y4, y5], _ =>
      have f0 : DataW.trod enc Tryz.prog W base (fun _ => true) held n1 3 (([c0, c1, c2, c3, c4, c5, c6, c7, c8, c9].drop 0).take (Tryz.prog.cellsOf 3)) = some y0 := hf 0 _ rfl
      have f1 : DataW.trod enc Tryz.prog W base (fun _ => true) held n1 26 (([c0, c1, c2, c3, c4, c5, c6, c7, c8, c9].drop 1).take (Tryz.prog.cellsOf 26)) = some y1 := hf 1 _ rfl
      have f2 : DataW.trod enc Tryz.prog W base (fun _ => true) held n1 22 (([c0, c1, c2, c3, c4, c5, c6, c7, c8, c9].drop 6).take (Tryz.prog.cellsOf 22)) = some y2 := hf 2 _ rfl
      have f3 : DataW.trod enc Tryz.prog W base (fun _ => true) held n1 9 (([c0, c1, c2, c3, c4, c5, c6, c7, c8, c9].drop 7).take (Tryz.prog.cellsOf 9)) = some y3 := hf 3 _ rfl
      have f4 : DataW.trod enc Tryz.prog W base (fun _ => true) held n1 27 (([c0, c1, c2, c3, c4, c5, c6, c7, c8, c9].drop 8).take (Tryz.prog.cellsOf 27)) = some y4 := hf 4 _ rfl
      have f5 : DataW.trod enc Tryz.prog W base (fun _ => true) held n1 28 (([c0, c1, c2, c3, c4, c5, c6, c7, c8, c9].drop 9).take (Tryz.prog.cellsOf 28)) = some y5 := hf 5 _ rfl
      rw [hci] at f0
      rw [hcI] at f1
      rw [hcu] at f2
      rw [hcs] at f3
      rw [hcL] at f4
      rw [hcK] at f5
      have g0 : DataW.trod enc Tryz.prog W base (fun _ => true) held n1 3 [c0] = some y0 := f0
      have g1 : DataW.trod enc Tryz.prog W base (fun _ => true) held n1 26 [c1, c2, c3, c4, c5] = some y1 := f1
      have g2 : DataW.trod enc Tryz.prog W base (fun _ => true) held n1 22 [c6] = some y2 := f2
      have g3 : DataW.trod enc Tryz.prog W base (fun _ => true) held n1 9 [c7] = some y3 := f3
      have g4 : DataW.trod enc Tryz.prog W base (fun _ => true) held n1 27 [c8] = some y4 := f4
      have g5 : DataW.trod enc Tryz.prog W base (fun _ => true) held n1 28 [c9] = some y5 := f5
      clear f0 f1 f2 f3 f4 f5 hf
      obtain ⟨k, e0, _, wk⟩ := DataW.trod_int hui g0
      obtain ⟨g, x, hx, e1, e2, e3, e4, e5⟩ := open_int5c g1
      obtain ⟨b, e6, _, wb⟩ := DataW.trod_int huu g2
      obtain ⟨s, e7, _, hs⟩ := DataW.trod_string hus g3
      obtain ⟨ka, kcap, keys, e9, hK, hkl, hkc, hks⟩ := open_keys g5
      simp only [List.cons.injEq, and_true] at e0 e6 e7
      have kids : ∃ (la : Option Addr) (lcap : Nat) (kids : List VT), c8 = .slice la kids.length lcap ∧ KidsAt W la kids ∧ kids.length ≤ lcap ∧ lcap ≤ maxLen ∧ ∀ (i : Nat) (t : VT), kids[i]? = some t → t.In W := by
        rcases DataW.trod_slice huL g4 with ⟨h1, _⟩ | ⟨a, len, cap, elems, rest, n, rfl, h1, _, hb, hl, hm, hlen, hel, _, _⟩
        · simp only [List.cons.injEq, and_true] at h1
          exact ⟨none, 0, [], h1, ⟨0, 0, fun h => absurd h (by simp), fun i s h => by simp at h⟩, by simp, by unfold maxLen; omega, fun i s h => by simp at h⟩
        · simp only [List.cons.injEq, and_true] at h1
          rw [hcV] at hel
          have hV : ∀ i, i < len → ∃ T : VT, (∀ j u, T.cells[j]? = some u → W.cell? ((a.add (i * 10)).add j) = some u) ∧ T.In W := fun i hi => by
            have h2 := hel i hi
            rw [List.getElem?_eq_getElem (by omega)] at h2
            obtain ⟨cs', h3, h4⟩ := Option.bind_eq_some_iff.1 h2
            obtain ⟨T, rfl, hT⟩ := ih n (by omega) _ _ h4
            obtain ⟨_, hl3, h5⟩ := World.cells?_some h3
            exact ⟨T, fun j u hu => (h5 j (by have := (List.getElem?_eq_some_iff.1 hu).1; omega)).trans hu, hT⟩
          obtain ⟨f, hf⟩ := Go.Deep.choose_lt (α := VT) hV
          refine ⟨some a, cap, (List.range len).map f, by simpa using h1, ?_, by simpa using hl, hm, fun i t h => ?_⟩
          · rcases Nat.eq_zero_or_pos len with h0 | h0
            · subst h0
              exact ⟨0, 0, fun h => absurd h (by simp), fun i s h => by simp at h⟩
            · obtain ⟨b', off, spot⟩ := a
              have hspot : spot = none := by
                have := World.cell?_spot ((hf 0 h0).1 0 _ rfl)
                simpa [Addr.add] using this
              subst hspot
              refine ⟨b', off, fun _ => rfl, fun i t h => ?_⟩
              have hi : i < len := by
                have := (List.getElem?_eq_some_iff.1 h).1
                simpa using this
              have ht : f i = t := by simpa [hi] using h
              subst ht
              have hc := (hf i hi).1
              simp only [Go.WideShapes.add_plain] at hc
              exact hc
          · have hi : i < len := by
              have := (List.getElem?_eq_some_iff.1 h).1
              simpa using this
            have ht : f i = t := by simpa [hi] using h
            subst ht
            exact (hf i hi).2
      obtain ⟨la, lcap, kids, e8, hL, hll, hlc, hli⟩ := kids
      refine ⟨.mk ⟨k, g, x, b, s, la, lcap, ka, kcap, keys⟩ kids, ?_, .mk _ _ ⟨?_, hx, ?_, hs, ⟨hll, hlc⟩, ⟨hkl, hkc⟩, hks⟩ hK hL hli⟩
      · subst e0 e1 e2 e3 e4 e5 e6 e7 e8 e9
        rfl
      · exact bounds_i64 wk
      · exact bounds_u64 wb

set_option maxRecDepth 100000 in
/-- A list of values as a parameter, opened. -/
theorem open_vlist {H : Type} {enc : TypeId × Value → H} {W : World} {base : Nat} {held : Bool} {r : Reach} {b : Nat} {v : Value} {d : DataW H} {p : List MemPlace}
    (hv : Value.okWide Tryz.prog W r b 27 v) (h : DataW.Trod enc Tryz.prog W base (fun _ => true) held 27 v d p) :
    ∃ (la : Option Addr) (lc : Nat) (kids : List VT), v = .slice la kids.length lc ∧ KidsAt W la kids ∧ kids.length ≤ lc ∧ lc ≤ maxLen ∧ ∀ (i : Nat) (t : VT), kids[i]? = some t → t.In W := by
  have huL : Tryz.prog.underlying 27 = some (.slice 30) := by kernel_rfl
  have hcV : Tryz.prog.cellsOf 30 = 10 := by kernel_rfl
  obtain ⟨a0, len0, cap0, rfl⟩ := okWide_slice huL hv
  obtain ⟨fuel, hf⟩ := h
  have g4 : DataW.trod enc Tryz.prog W base (fun _ => true) held fuel 27 [.slice a0 len0 cap0] = some (d, p) := by simpa [Value.cells] using hf
  rcases DataW.trod_slice huL g4 with ⟨h1, _⟩ | ⟨a, len, cap, elems, rest, n, _, h1, _, hb, hl, hm, hlen, hel, _, _⟩
  · simp only [List.cons.injEq, and_true] at h1
    exact ⟨none, 0, [], h1, ⟨0, 0, fun h => absurd h (by simp), fun i s h => by simp at h⟩, by simp, by unfold maxLen; omega, fun i s h => by simp at h⟩
  · simp only [List.cons.injEq, and_true] at h1
    rw [hcV] at hel
    have hV : ∀ i, i < len → ∃ T : VT, (∀ j u, T.cells[j]? = some u → W.cell? ((a.add (i * 10)).add j) = some u) ∧ T.In W := fun i hi => by
      have h2 := hel i hi
      rw [List.getElem?_eq_getElem (by omega)] at h2
      obtain ⟨cs', h3, h4⟩ := Option.bind_eq_some_iff.1 h2
      obtain ⟨T, rfl, hT⟩ := open_vt n _ _ h4
      obtain ⟨_, hl3, h5⟩ := World.cells?_some h3
      exact ⟨T, fun j u hu => (h5 j (by have := (List.getElem?_eq_some_iff.1 hu).1; omega)).trans hu, hT⟩
    obtain ⟨f, hf⟩ := Go.Deep.choose_lt (α := VT) hV
    refine ⟨some a, cap, (List.range len).map f, by simpa using h1, ?_, by simpa using hl, hm, fun i t h => ?_⟩
    · rcases Nat.eq_zero_or_pos len with h0 | h0
      · subst h0
        exact ⟨0, 0, fun h => absurd h (by simp), fun i s h => by simp at h⟩
      · obtain ⟨b', off, spot⟩ := a
        have hspot : spot = none := by
          have := World.cell?_spot ((hf 0 h0).1 0 _ rfl)
          simpa [Addr.add] using this
        subst hspot
        refine ⟨b', off, fun _ => rfl, fun i t h => ?_⟩
        have hi : i < len := by
          have := (List.getElem?_eq_some_iff.1 h).1
          simpa using this
        have ht : f i = t := by simpa [hi] using h
        subst ht
        have hc := (hf i hi).1
        simp only [Go.WideShapes.add_plain] at hc
        exact hc
    · have hi : i < len := by
        have := (List.getElem?_eq_some_iff.1 h).1
        simpa using this
      have ht : f i = t := by simpa [hi] using h
      subst ht
      exact (hf i hi).2

theorem trod_lt' {H : Type} {enc : TypeId × Value → H} {P : Program} {W : World} {base : Nat} {sp : Nat → Bool} {held : Bool} {t : TypeId} {v : Value} {d : DataW H} {p : List MemPlace}
    (h : DataW.Trod enc P W base sp held t v d p) : ∀ x ∈ p, x.block < W.heap.size := by
  obtain ⟨fuel, hf⟩ := h
  exact DataW.trod_lt fuel _ _ _ hf
end Go.Proofs.YtbfgkogccfioiaaGreatDoor
