/-
  float.Single, ToSingle: the contracts, for every word of each width. What a conversion draws (a NaN's bits, a number too great for 32 bits) turns nothing.
-/
import Derived.Test.YtfbkifcgdkgllaaDoorFltC
namespace Go.Proofs.YtfbkifcgdkgllaaDoor
open Go.RowKit Go.Shelf
open Ieee (Datum Format)

theorem conv_some (s d : Nat) (h : floatToFloatBits .f32 s .f64 = some d) (w : World) : (convert 98 99 (.float .f32 s)).run Tryd.prog w = .ok (.float .f64 d) w :=
  run_convert_float_float w _ _ .f32 .f64 s d (by kernel_rfl) (by kernel_rfl) h
theorem conv_some' (s d : Nat) (h : floatToFloatBits .f64 s .f32 = some d) (w : World) : (convert 99 98 (.float .f64 s)).run Tryd.prog w = .ok (.float .f32 d) w :=
  run_convert_float_float w _ _ .f64 .f32 s d (by kernel_rfl) (by kernel_rfl) h
def nanDraw (s : Nat) (W : World) : Nat := Question.cut (.nanConv .f64 s) (W.tape W.drawn (.nanConv .f64 s))
theorem conv_nan (s : Nat) (neg : Bool) (f : Nat) (h : FloatKind.decode .f32 s = .nan neg f) (w : World) : (convert 98 99 (.float .f32 s)).run Tryd.prog w = .ok (.float .f64 (nanDraw s w)) w.drew := by
  have hs : Tryd.prog.underlying 98 = some (.float .f32) := by kernel_rfl
  have hd : Tryd.prog.underlying 99 = some (.float .f64) := by kernel_rfl
  have ne : ¬ FloatKind.f32 = FloatKind.f64 := by decide
  simp [convert, run_underlying hs, run_underlying hd, Conv.floatToFloat, ne, h, Sem.run_bind]
  rfl
def wideDraw (s : Nat) (W : World) : Nat := Question.cut (.floatToFloat s) (W.tape W.drawn (.floatToFloat s))
theorem conv_wide (s : Nat) (neg : Bool) (m : Nat) (p : Int) (h : FloatKind.decode .f64 s = .number neg m p) (hi : (FloatKind.decode .f32 (FloatKind.encode .f32 (.number neg m p))).isInfinity = true) (w : World) :
    (convert 99 98 (.float .f64 s)).run Tryd.prog w = .ok (.float .f32 (wideDraw s w)) w.drew := by
  have hs : Tryd.prog.underlying 99 = some (.float .f64) := by kernel_rfl
  have hd : Tryd.prog.underlying 98 = some (.float .f32) := by kernel_rfl
  have ne : ¬ FloatKind.f64 = FloatKind.f32 := by decide
  simp [convert, run_underlying hs, run_underlying hd, Conv.floatToFloat, ne, h, hi, Sem.run_bind]
  rfl
theorem nanDraw_bounds (s : Nat) (W : World) : nanDraw s W < 18446744073709551616 ∧ INF < rg (nanDraw s W) := by
  unfold nanDraw Question.cut rg
  have h5 : INF = 9218868437227405312 := rfl
  generalize W.tape W.drawn (.nanConv .f64 s) = t
  simp only []
  have h : t % 2 = 0 ∨ t % 2 = 1 := by omega
  have h2 : t / 2 % (2 ^ 52 - 1) < 2 ^ 52 - 1 := Nat.mod_lt _ (by decide)
  generalize t / 2 % (2 ^ 52 - 1) = r at *
  rcases h with h | h <;> rw [h] <;> omega
theorem wideDraw_lt (s : Nat) (W : World) : wideDraw s W < 4294967296 := by
  unfold wideDraw Question.cut
  simp only []
  omega

theorem tosingle_nan (b : Int) (c : ∀ W, Calls Tryd.prog 93 #[.int .u64 b] W fun e w' => e = .returned (.bool true) ∧ w' = W) (w : World) :
    Calls Tryd.prog 55 #[.int .u64 b] w fun e w' => e = .returned (.tuple #[.int .u32 2143289344, .bool true]) ∧ Below w.heap.size w w' := by
  have C := Lib.hid c; clear c
  go_enter Tryd.func55, Tryd.ntmps55
  go_wp2_with fail
  refine (C.out _).mono ?_
  rintro e w1 ⟨rfl, rfl⟩
  go_wp2
  go_ret2
  exact ⟨rfl, Below.refl _ _⟩
theorem tosingle_yes (b s : Nat) (hc : ∀ W, (convert 99 98 (.float .f64 b)).run Tryd.prog W = .ok (.float .f32 s) W)
    (c : ∀ W, Calls Tryd.prog 93 #[.int .u64 b] W fun e w' => e = .returned (.bool false) ∧ w' = W)
    (c3 : ∀ W, Calls Tryd.prog 62 #[.int .u32 s] W fun e w' => e = .returned (.int .u64 b) ∧ ∃ n, w' = W.drewN n) (w : World) :
    Calls Tryd.prog 55 #[.int .u64 b] w fun e w' => e = .returned (.tuple #[.int .u32 s, .bool true]) ∧ Below w.heap.size w w' := by
  have C := Lib.hid c; have C3 := Lib.hid c3; clear c c3
  have hb := fun W => f32bits s W
  have hf := fun W => f64from b W
  go_enter Tryd.func55, Tryd.ntmps55
  go_wp2_with fail
  refine (C.out _).mono ?_
  rintro e w1 ⟨rfl, rfl⟩
  go_wp2_with fail
  refine (C3.out _).mono ?_
  rintro e w1 ⟨rfl, n, rfl⟩
  go_wp2
  go_ret2
  exact ⟨rfl, bdn (Below.refl _ _) _⟩
theorem tosingle_no (b s : Nat) (d : Int) (hne : (d != (b : Int)) = true) (hc : ∀ W, (convert 99 98 (.float .f64 b)).run Tryd.prog W = .ok (.float .f32 s) W)
    (c : ∀ W, Calls Tryd.prog 93 #[.int .u64 b] W fun e w' => e = .returned (.bool false) ∧ w' = W)
    (c3 : ∀ W, Calls Tryd.prog 62 #[.int .u32 s] W fun e w' => e = .returned (.int .u64 d) ∧ ∃ n, w' = W.drewN n) (w : World) :
    Calls Tryd.prog 55 #[.int .u64 b] w fun e w' => e = .returned (.tuple #[.int .u32 0, .bool false]) ∧ Below w.heap.size w w' := by
  have C := Lib.hid c; have C3 := Lib.hid c3; clear c c3
  have hb := fun W => f32bits s W
  have hf := fun W => f64from b W
  go_enter Tryd.func55, Tryd.ntmps55
  go_wp2_with fail
  refine (C.out _).mono ?_
  rintro e w1 ⟨rfl, rfl⟩
  go_wp2_with fail
  refine (C3.out _).mono ?_
  rintro e w1 ⟨rfl, n, rfl⟩
  go_wp2
  go_ret2
  exact ⟨rfl, bdn (Below.refl _ _) _⟩
theorem tosingle_drawn (b : Nat) (s : World → Nat) (d : World → Int) (hne : ∀ V, (d V != (b : Int)) = true) (hc : ∀ W, (convert 99 98 (.float .f64 b)).run Tryd.prog W = .ok (.float .f32 (s W)) W.drew)
    (c : ∀ W, Calls Tryd.prog 93 #[.int .u64 b] W fun e w' => e = .returned (.bool false) ∧ w' = W)
    (c3 : ∀ V W, Calls Tryd.prog 62 #[.int .u32 (s V : Nat)] W fun e w' => e = .returned (.int .u64 (d V)) ∧ ∃ n, w' = W.drewN n) (w : World) :
    Calls Tryd.prog 55 #[.int .u64 b] w fun e w' => e = .returned (.tuple #[.int .u32 0, .bool false]) ∧ Below w.heap.size w w' := by
  have C := Lib.hid c; have C3 := Lib.hid c3; clear c c3
  have hb := fun x W => f32bits x W
  have hf := fun W => f64from b W
  go_enter Tryd.func55, Tryd.ntmps55
  go_wp2_with fail
  refine (C.out _).mono ?_
  rintro e w1 ⟨rfl, rfl⟩
  go_wp2_with fail
  refine (C3.out _ _).mono ?_
  rintro e w1 ⟨rfl, n, rfl⟩
  go_wp2
  go_ret2
  exact ⟨rfl, bdn (Below.refl _ _) _⟩

theorem sgl_read {s : Nat} (hs : s < 4294967296) (h : s % 2147483648 < 2139095040) : FloatKind.decode .f32 s = .number (s / 2147483648 == 1) (mg Ieee.single (s % 2147483648)) (pl Ieee.single (s % 2147483648)) := by
  have := read_word Ieee.single (s / 2147483648 == 1) (s % 2147483648) (by rw [sgl_inf]; exact h) (by rw [sgl_sign]; omega)
  rw [sgl_word, ← sgn_or (n := s / 2147483648) (by omega), show s / 2147483648 * 2147483648 + s % 2147483648 = s from by omega] at this
  exact this
theorem dbl_read {b : Nat} (hb : b < 18446744073709551616) (h : rg b < INF) : FloatKind.decode .f64 b = .number (sg b == 1) (mg Ieee.double (rg b)) (pl Ieee.double (rg b)) := by
  have h5 : INF = 9218868437227405312 := rfl
  have h2 : sg b < 2 := by unfold sg; omega
  have := read_word Ieee.double (sg b == 1) (rg b) (by rw [dbl_inf]; exact h) (by rw [dbl_sign]; omega)
  rw [dbl_word, ← sgn_or h2, ← word_of] at this
  exact this
theorem read_inf (f : Format) (neg : Bool) (h0 : f.binade ≤ f.infRung) (h : f.infRung < f.signWeight) : f.read (f.word neg f.infRung) = .infinity neg := by
  have e1 : f.word neg f.infRung % f.signWeight = f.infRung := by
    unfold Format.word
    cases neg
    · simp [Nat.mod_eq_of_lt h]
    · simp [Nat.mod_eq_of_lt h]
  have e2 : (f.word neg f.infRung / f.signWeight % 2 == 1) = neg := by
    have hp : 0 < f.signWeight := by omega
    unfold Format.word
    cases neg
    · simp [Nat.div_eq_of_lt h]
    · simp [Nat.add_div_left _ hp, Nat.div_eq_of_lt h]
  unfold Format.read
  simp only [e1, e2, Nat.lt_irrefl, if_false, if_true]
  rw [if_neg (by omega)]
theorem sgl_read_inf {s : Nat} (hs : s < 4294967296) (h : s % 2147483648 = 2139095040) : FloatKind.decode .f32 s = .infinity (s / 2147483648 == 1) := by
  have := read_inf Ieee.single (s / 2147483648 == 1) (by decide) (by decide)
  rw [sgl_word, sgl_inf, ← sgn_or (n := s / 2147483648) (by omega), show s / 2147483648 * 2147483648 + 2139095040 = s from by omega] at this
  exact this
theorem dbl_read_inf {b : Nat} (hb : b < 18446744073709551616) (h : rg b = INF) : FloatKind.decode .f64 b = .infinity (sg b == 1) := by
  have h5 : INF = 9218868437227405312 := rfl
  have h2 : sg b < 2 := by unfold sg; omega
  have := read_inf Ieee.double (sg b == 1) (by decide) (by decide)
  have hw := word_of b
  rw [h, h5] at hw
  rw [dbl_word, dbl_inf, ← sgn_or h2, ← hw] at this
  exact this
theorem sgl_read_nan {s : Nat} (h : 2139095040 < s % 2147483648) : ∃ neg f, FloatKind.decode .f32 s = .nan neg f := by
  show ∃ neg f, Ieee.single.read s = .nan neg f
  unfold Format.read
  simp only [sgl_sign, sgl_binade, sgl_inf]
  rw [if_neg (by omega), if_neg (by omega), if_neg (by omega)]
  exact ⟨_, _, rfl⟩
theorem can_nan {b : Nat} (h : INF < rg b) : can b = NANW := by unfold can; rw [if_pos h]
theorem can_id {b : Nat} (h : rg b ≤ INF) : can b = b := by unfold can; rw [if_neg (by omega)]
/-- A single that is none's number in 64 bits. -/
theorem sng_conv {s : Nat} (hs : s < 4294967296) (h : s % 2147483648 ≤ 2139095040) : floatToFloatBits .f32 s .f64 = some (sng s) ∧ rg (sng s) ≤ INF := by
  have h5 : INF = 9218868437227405312 := rfl
  have ne : ¬ FloatKind.f32 = FloatKind.f64 := by decide
  have hsg := sgn_or (n := s / 2147483648) (by omega)
  unfold floatToFloatBits
  rw [if_neg ne]
  by_cases k : s % 2147483648 = 2139095040
  · rw [sgl_read_inf hs k]
    have e : sng s = s / 2147483648 * 9223372036854775808 + 9218868437227405312 := by unfold sng; rw [if_neg (by omega), if_pos k]
    constructor
    · show some (Ieee.double.word (s / 2147483648 == 1) Ieee.double.infRung) = _
      rw [dbl_word, dbl_inf, ← hsg, e]
    · rw [e]; unfold rg; omega
  · rw [sgl_read hs (by omega)]
    by_cases k0 : s % 2147483648 = 0
    · have e : sng s = s / 2147483648 * 9223372036854775808 + 0 := by unfold sng; rw [if_neg (by omega), if_neg k, if_pos k0]
      have ew : FloatKind.encode .f64 (.number (s / 2147483648 == 1) (mg Ieee.single (s % 2147483648)) (pl Ieee.single (s % 2147483648))) = sng s := by
        show Ieee.double.nearest _ _ _ = _
        rw [k0, show mg Ieee.single 0 = 0 from by decide, near_zero, dbl_word, ← hsg, e]
      have er := dbl_read (b := sng s) (sng_lt hs) (by rw [e]; unfold rg; omega)
      dsimp only
      rw [ew, er]
      exact ⟨rfl, by rw [e]; unfold rg; omega⟩
    · obtain ⟨a, b, c, d⟩ := single_parts k0 (by omega)
      have hn := (nr_spec (d := mg Ieee.single (s % 2147483648)) (p := pl Ieee.single (s % 2147483648)) a (by omega) (by omega) (by omega)).1
      have e : sng s = s / 2147483648 * 9223372036854775808 + nr (mg Ieee.single (s % 2147483648)) (pl Ieee.single (s % 2147483648)) := by unfold sng; rw [if_neg (by omega), if_neg k, if_neg k0]
      have ew : FloatKind.encode .f64 (.number (s / 2147483648 == 1) (mg Ieee.single (s % 2147483648)) (pl Ieee.single (s % 2147483648))) = sng s := by
        show Ieee.double.nearest _ _ _ = _
        rw [near_dbl _ a (by omega) (by omega) (by omega), ← hsg, e]
      have er := dbl_read (b := sng s) (sng_lt hs) (by rw [e]; unfold rg; omega)
      dsimp only
      rw [ew, er]
      exact ⟨rfl, by rw [e]; unfold rg; omega⟩
theorem single_any (s : Nat) (hs : s < 4294967296) (w : World) :
    Calls Tryd.prog 62 #[.int .u32 s] w fun e w' => e = .returned (.int .u64 (sng s : Nat)) ∧ ∃ n, w' = w.drewN n := by
  by_cases h : s % 2147483648 ≤ 2139095040
  · obtain ⟨h1, h2⟩ := sng_conv hs h
    have hc := fun W => canon_any (sng s) (sng_lt hs) W
    rw [can_id h2] at hc
    exact single_core s _ _ (fun W => conv_some s _ h1 W) hc w
  · obtain ⟨neg, f, hd⟩ := sgl_read_nan (s := s) (by omega)
    rw [sng_nan (by omega)]
    refine single_drawn s (nanDraw s) _ (fun W => conv_nan s neg f hd W) (fun V W => ?_) w
    have hc := canon_any (nanDraw s V) (nanDraw_bounds s V).1 W
    rw [can_nan (nanDraw_bounds s V).2] at hc
    exact hc
theorem tosr_encode {b : Nat} (hb : b < 18446744073709551616) : FloatKind.encode .f32 (.number (sg b == 1) (mg Ieee.double (rg b)) (pl Ieee.double (rg b))) = tosr b := by
  have h2 : sg b < 2 := by unfold sg; omega
  show Ieee.single.nearest _ _ _ = _
  rw [near_sign, sgl_sign, ← sgn_or h2]
  rfl
theorem inf_bits {s : Nat} (hs : s < 4294967296) (hle : s % 2147483648 ≤ 2139095040) : (FloatKind.decode .f32 s).isInfinity = decide (s % 2147483648 = 2139095040) := by
  by_cases h : s % 2147483648 = 2139095040
  · rw [sgl_read_inf hs h, decide_eq_true h]; rfl
  · rw [sgl_read hs (by omega), decide_eq_false h]; rfl
theorem tosingle_any (b : Nat) (hb : b < 18446744073709551616) (w : World) :
    Calls Tryd.prog 55 #[.int .u64 b] w fun e w' => e = .returned (.tuple #[.int .u32 ((tos b).1 : Nat), .bool (tos b).2]) ∧ Below w.heap.size w w' := by
  have h5 : INF = 9218868437227405312 := rfl
  have h2 : sg b < 2 := by unfold sg; omega
  have hw := word_of b
  have ne : ¬ FloatKind.f64 = FloatKind.f32 := by decide
  by_cases h : INF < rg b
  · rw [tos_nan h]
    exact tosingle_nan b (fun W => isnan_yes b hb h W) w
  have hnan := fun W => isnan_no b hb h W
  by_cases hi : rg b = INF
  · have e : tos b = (sg b * 2147483648 + 2139095040, true) := by unfold tos; rw [if_neg h, if_pos hi]
    have q1 : (sg b * 2147483648 + 2139095040) % 2147483648 = 2139095040 := by omega
    have q2 : (sg b * 2147483648 + 2139095040) / 2147483648 = sg b := by omega
    have hs : sng (sg b * 2147483648 + 2139095040) = b := by
      unfold sng
      rw [q1, q2, if_neg (by omega), if_pos rfl]
      omega
    rw [e]
    have h1 := fun W => single_any (sg b * 2147483648 + 2139095040) (by omega) W
    rw [hs] at h1
    refine tosingle_yes b _ (fun W => conv_some' b _ ?_ W) hnan h1 w
    unfold floatToFloatBits
    rw [if_neg ne, dbl_read_inf hb hi]
    show some (Ieee.single.word (sg b == 1) Ieee.single.infRung) = _
    rw [sgl_word, sgl_inf, ← sgn_or h2]
  · have hd := dbl_read hb (by omega)
    obtain ⟨t1, t2, t3⟩ := tosr_bound hb
    have hle := near_le Ieee.single (mg Ieee.double (rg b)) (pl Ieee.double (rg b))
    rw [← t3, sgl_inf] at hle
    have e : tos b = if sng (tosr b) = b then (tosr b, true) else (0, false) := by unfold tos; rw [if_neg h, if_neg hi]
    by_cases k : tosr b % 2147483648 = 2139095040
    · have hno : ∀ s, s < 4294967296 → sng s ≠ b := by
        intro s hs hsb
        have := (tos_iff hb (by omega)).2 ⟨s, hs, hsb⟩
        rw [e] at this
        split at this
        · rename_i h3
          rw [sng_eq hle, k] at h3
          have : sng0 2139095040 = INF := by unfold sng0; rw [if_pos rfl]
          rw [this] at h3
          omega
        · cases this
      rw [e, if_neg (hno _ t1)]
      refine tosingle_drawn b (wideDraw b) (fun V => (sng (wideDraw b V) : Nat)) (fun V => ?_) (fun W => conv_wide b _ _ _ hd ?_ W) hnan (fun V W => single_any _ (wideDraw_lt b V) W) w
      · have := hno _ (wideDraw_lt b V)
        rw [bne_iff_ne]; omega
      · rw [tosr_encode hb, inf_bits t1 hle, decide_eq_true k]
    · have hconv : floatToFloatBits .f64 b .f32 = some (tosr b) := by
        unfold floatToFloatBits
        rw [if_neg ne, hd]
        simp only []
        rw [tosr_encode hb, inf_bits t1 hle, decide_eq_false k]
        rfl
      have h1 := fun W => single_any (tosr b) t1 W
      rw [e]
      by_cases hk : sng (tosr b) = b
      · rw [if_pos hk]
        rw [hk] at h1
        exact tosingle_yes b _ (fun W => conv_some' b _ hconv W) hnan h1 w
      · rw [if_neg hk]
        exact tosingle_no b _ _ (by rw [bne_iff_ne]; omega) (fun W => conv_some' b _ hconv W) hnan h1 w
end Go.Proofs.YtfbkifcgdkgllaaDoor
