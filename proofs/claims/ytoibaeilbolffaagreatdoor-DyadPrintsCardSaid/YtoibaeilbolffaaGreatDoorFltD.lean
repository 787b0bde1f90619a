/-
  float.Single, ToSingle: the contracts, for every word of each width. What a conversion draws (a NaN's bits, a number too great for 32 bits) turns nothing.
-/
import Derived.Test.YtoibaeilbolffaaGreatDoorFltC
namespace Go.Proofs.YtoibaeilbolffaaGreatDoor
open Go.RowKit Go.Shelf
open Ieee (Datum Format)

def nanDraw (s : Nat) (W : World) : Nat := Question.cut (.nanConv .f64 s) (W.tape W.drawn (.nanConv .f64 s))
def wideDraw (s : Nat) (W : World) : Nat := Question.cut (.floatToFloat s) (W.tape W.drawn (.floatToFloat s))
theorem nanDraw_bounds (s : Nat) (W : World) : nanDraw s W < 18446744073709551616 ∧ INF < rg (nanDraw s W) := by
  unfold nanDraw Question.cut rg
  have h5 : INF = 9218868437227405312 := rfl
  generalize W.tape W.drawn (.nanConv .f64 s) = t
  simp only []
  have h : t % 2 = 0 ∨ t % 2 = 1 := by omega
  have h2 : t / 2 % (2 ^ 52 - 1) < 2 ^ 52 - 1 := Nat.mod_lt _ (by decide)
  generalize t / 2 % (2 ^ 52 - 1) = r at *
  rcases h with h | h <;> rw [h] <;> omega
theorem wideDraw_lt (s : Nat) (W : World) : wideDraw s W < 4294967296 := by
  unfold wideDraw Question.cut
  simp only []
  omega

theorem sgl_read {s : Nat} (hs : s < 4294967296) (h : s % 2147483648 < 2139095040) : FloatKind.decode .f32 s = .number (s / 2147483648 == 1) (mg Ieee.single (s % 2147483648)) (pl Ieee.single (s % 2147483648)) := by
  have := read_word Ieee.single (s / 2147483648 == 1) (s % 2147483648) (by rw [sgl_inf]; exact h) (by rw [sgl_sign]; omega)
  rw [sgl_word, ← sgn_or (n := s / 2147483648) (by omega), show s / 2147483648 * 2147483648 + s % 2147483648 = s from by omega] at this
  exact this
theorem dbl_read {b : Nat} (hb : b < 18446744073709551616) (h : rg b < INF) : FloatKind.decode .f64 b = .number (sg b == 1) (mg Ieee.double (rg b)) (pl Ieee.double (rg b)) := by
  have h5 : INF = 9218868437227405312 := rfl
  have h2 : sg b < 2 := by unfold sg; omega
  have := read_word Ieee.double (sg b == 1) (rg b) (by rw [dbl_inf]; exact h) (by rw [dbl_sign]; omega)
  rw [dbl_word, ← sgn_or h2, ← word_of] at this
  exact this
theorem read_inf (f : Format) (neg : Bool) (h0 : f.binade ≤ f.infRung) (h : f.infRung < f.signWeight) : f.read (f.word neg f.infRung) = .infinity neg := by
  have e1 : f.word neg f.infRung % f.signWeight = f.infRung := by
    unfold Format.word
    cases neg
    · simp [Nat.mod_eq_of_lt h]
    · simp [Nat.mod_eq_of_lt h]
  have e2 : (f.word neg f.infRung / f.signWeight % 2 == 1) = neg := by
    have hp : 0 < f.signWeight := by omega
    unfold Format.word
    cases neg
    · simp [Nat.div_eq_of_lt h]
    · simp [Nat.add_div_left _ hp, Nat.div_eq_of_lt h]
  unfold Format.read
  simp only [e1, e2, Nat.lt_irrefl, if_false, if_true]
  rw [if_neg (by omega)]
theorem sgl_read_inf {s : Nat} (hs : s < 4294967296) (h : s % 2147483648 = 2139095040) : FloatKind.decode .f32 s = .infinity (s / 2147483648 == 1) := by
  have := read_inf Ieee.single (s / 2147483648 == 1) (by decide) (by decide)
  rw [sgl_word, sgl_inf, ← sgn_or (n := s / 2147483648) (by omega), show s / 2147483648 * 2147483648 + 2139095040 = s from by omega] at this
  exact this
theorem dbl_read_inf {b : Nat} (hb : b < 18446744073709551616) (h : rg b = INF) : FloatKind.decode .f64 b = .infinity (sg b == 1) := by
  have h5 : INF = 9218868437227405312 := rfl
  have h2 : sg b < 2 := by unfold sg; omega
  have := read_inf Ieee.double (sg b == 1) (by decide) (by decide)
  have hw := word_of b
  rw [h, h5] at hw
  rw [dbl_word, dbl_inf, ← sgn_or h2, ← hw] at this
  exact this
theorem sgl_read_nan {s : Nat} (h : 2139095040 < s % 2147483648) : ∃ neg f, FloatKind.decode .f32 s = .nan neg f := by
  show ∃ neg f, Ieee.single.read s = .nan neg f
  unfold Format.read
  simp only [sgl_sign, sgl_binade, sgl_inf]
  rw [if_neg (by omega), if_neg (by omega), if_neg (by omega)]
  exact ⟨_, _, rfl⟩
theorem can_nan {b : Nat} (h : INF < rg b) : can b = NANW := by unfold can; rw [if_pos h]
theorem can_id {b : Nat} (h : rg b ≤ INF) : can b = b := by unfold can; rw [if_neg (by omega)]
/-- A single that is none's number in 64 bits. -/
theorem sng_conv {s : Nat} (hs : s < 4294967296) (h : s % 2147483648 ≤ 2139095040) : floatToFloatBits .f32 s .f64 = some (sng s) ∧ rg (sng s) ≤ INF := by
  have h5 : INF = 9218868437227405312 := rfl
  have ne : ¬ FloatKind.f32 = FloatKind.f64 := by decide
  have hsg := sgn_or (n := s / 2147483648) (by omega)
  unfold floatToFloatBits
  rw [if_neg ne]
  by_cases k : s % 2147483648 = 2139095040
  · rw [sgl_read_inf hs k]
    have e : sng s = s / 2147483648 * 9223372036854775808 + 9218868437227405312 := by unfold sng; rw [if_neg (by omega), if_pos k]
    constructor
    · show some (Ieee.double.word (s / 2147483648 == 1) Ieee.double.infRung) = _
      rw [dbl_word, dbl_inf, ← hsg, e]
    · rw [e]; unfold rg; omega
  · rw [sgl_read hs (by omega)]
    by_cases k0 : s % 2147483648 = 0
    · have e : sng s = s / 2147483648 * 9223372036854775808 + 0 := by unfold sng; rw [if_neg (by omega), if_neg k, if_pos k0]
      have ew : FloatKind.encode .f64 (.number (s / 2147483648 == 1) (mg Ieee.single (s % 2147483648)) (pl Ieee.single (s % 2147483648))) = sng s := by
        show Ieee.double.nearest _ _ _ = _
        rw [k0, show mg Ieee.single 0 = 0 from by decide, near_zero, dbl_word, ← hsg, e]
      have er := dbl_read (b := sng s) (sng_lt hs) (by rw [e]; unfold rg; omega)
      dsimp only
      rw [ew, er]
      exact ⟨rfl, by rw [e]; unfold rg; omega⟩
    · obtain ⟨a, b, c, d⟩ := single_parts k0 (by omega)
      have hn := (nr_spec (d := mg Ieee.single (s % 2147483648)) (p := pl Ieee.single (s % 2147483648)) a (by omega) (by omega) (by omega)).1
      have e : sng s = s / 2147483648 * 9223372036854775808 + nr (mg Ieee.single (s % 2147483648)) (pl Ieee.single (s % 2147483648)) := by unfold sng; rw [if_neg (by omega), if_neg k, if_neg k0]
      have ew : FloatKind.encode .f64 (.number (s / 2147483648 == 1) (mg Ieee.single (s % 2147483648)) (pl Ieee.single (s % 2147483648))) = sng s := by
        show Ieee.double.nearest _ _ _ = _
        rw [near_dbl _ a (by omega) (by omega) (by omega), ← hsg, e]
      have er := dbl_read (b := sng s) (sng_lt hs) (by rw [e]; unfold rg; omega)
      dsimp only
      rw [ew, er]
      exact ⟨rfl, by rw [e]; unfold rg; omega⟩
theorem tosr_encode {b : Nat} (hb : b < 18446744073709551616) : FloatKind.encode .f32 (.number (sg b == 1) (mg Ieee.double (rg b)) (pl Ieee.double (rg b))) = tosr b := by
  have h2 : sg b < 2 := by unfold sg; omega
  show Ieee.single.nearest _ _ _ = _
  rw [near_sign, sgl_sign, ← sgn_or h2]
  rfl
theorem inf_bits {s : Nat} (hs : s < 4294967296) (hle : s % 2147483648 ≤ 2139095040) : (FloatKind.decode .f32 s).isInfinity = decide (s % 2147483648 = 2139095040) := by
  by_cases h : s % 2147483648 = 2139095040
  · rw [sgl_read_inf hs h, decide_eq_true h]; rfl
  · rw [sgl_read hs (by omega), decide_eq_false h]; rfl
end Go.Proofs.YtoibaeilbolffaaGreatDoor
