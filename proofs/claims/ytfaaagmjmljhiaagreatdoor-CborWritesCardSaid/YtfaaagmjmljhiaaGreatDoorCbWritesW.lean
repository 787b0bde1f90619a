/-
  entrepotlaw8.CborWrites answers true for every value.
-/
import Derived.Test.YtfaaagmjmljhiaaGreatDoorGY
import Derived.Test.YtfaaagmjmljhiaaGreatDoorGS
import Derived.Test.YtfaaagmjmljhiaaGreatDoorGQ
namespace Go.Proofs.YtfaaagmjmljhiaaGreatDoor
open Go.RowKit Go.Shelf
set_option linter.unusedVariables false

section
variable (kd : Int) (g : Bool) (x0 x1 x2 x3 b : Int) (s : ByteArray) (la : Option Addr) (n lc : Nat) (ka : Option Addr) (m kc : Nat) (w : World)
set_option maxRecDepth 100000 in
theorem writes_told (hT : Tb w)
    (k1 : ∀ W, Below w.heap.size w W → Calls Tryz.prog 8 #[V10 kd g x0 x1 x2 x3 b s la n lc ka m kc] W fun e w' => e = .returned (.bool false) ∧ Below W.heap.size W w') :
    Calls Tryz.prog 4 #[V10 kd g x0 x1 x2 x3 b s la n lc ka m kc] w fun e w' => e = .returned (.bool true) ∧ Below w.heap.size w w' := by
  have K1 := Lib.hid k1; have HT := Lib.hid hT
  clear k1 hT
  have B0 := Lib.hid (bal (Below.refl _ w) (.cells #[.int .i64 kd, .bool g, .int .u64 x0, .int .u64 x1, .int .u64 x2, .int .u64 x3, .int .u64 b, .string s, .slice la n lc, .slice ka m kc] 33))
  go_enter Tryz.func4, Tryz.ntmps4
  go_wp2_with (first | (go_at_call 8; ((with_reducible refine (K1.out _ B0.out).mono ?_); rintro e w1 ⟨rfl, hb1⟩)) | (go_at_call 7; ((with_reducible refine (told8_true _ (tb_on (tb_on HT.out B0.out) hb1)).mono ?_); rintro e w2 ⟨rfl, hb2⟩)))
  go_ret
  exact ⟨rfl, btr (btr B0.out hb1) hb2⟩
set_option maxRecDepth 100000 in
set_option maxHeartbeats 2000000 in
theorem writes_none (hT : Tb w) (z : Int)
    (k1 : ∀ W, Below w.heap.size w W → Calls Tryz.prog 8 #[V10 kd g x0 x1 x2 x3 b s la n lc ka m kc] W fun e w' => e = .returned (.bool true) ∧ Below W.heap.size W w')
    (k2 : ∀ W, Below w.heap.size w W → Calls Tryz.prog 10 #[V10 kd g x0 x1 x2 x3 b s la n lc ka m kc] W fun e w' => e = .returned (.tuple #[.slice none 0 0, .int .i64 z]) ∧ Below W.heap.size W w')
    (k3 : ∀ W, Below w.heap.size w W → Calls Tryz.prog 11 #[V10 kd g x0 x1 x2 x3 b s la n lc ka m kc] W fun e w' => e = .returned (.tuple #[.string ⟨#[]⟩, .int .i64 z]) ∧ Below W.heap.size W w') :
    Calls Tryz.prog 4 #[V10 kd g x0 x1 x2 x3 b s la n lc ka m kc] w fun e w' => e = .returned (.bool true) ∧ Below w.heap.size w w' := by
  have K1 := Lib.hid k1; have K2 := Lib.hid k2; have K3 := Lib.hid k3; have HT := Lib.hid hT
  clear k1 k2 k3 hT
  have B0 := Lib.hid (bal (Below.refl _ w) (.cells #[.int .i64 kd, .bool g, .int .u64 x0, .int .u64 x1, .int .u64 x2, .int .u64 x3, .int .u64 b, .string s, .slice la n lc, .slice ka m kc] 33))
  have R0 := Lib.hid (Row10.new w (.int .i64 kd) (.bool g) (.int .u64 x0) (.int .u64 x1) (.int .u64 x2) (.int .u64 x3) (.int .u64 b) (.string s) (.slice la n lc) (.slice ka m kc))
  have hzz : (z == z) = true := by simp
  have hnil : ∀ W : World, (convert 24 9 (.slice none 0 0)).run Tryz.prog W = .ok (.string ⟨#[]⟩) W := fun W => run_convert_bytes_nil (P := Tryz.prog) (w := W) 24 5 (by kernel_rfl) (by kernel_rfl) 0 0 9 (by kernel_rfl)
  go_enter Tryz.func4, Tryz.ntmps4
  go_wp2_with (first
    | (go_at_call 8; ((with_reducible refine (K1.out _ B0.out).mono ?_); rintro e w1 ⟨rfl, hb1⟩; have B1 := Lib.hid (btr B0.out hb1); have R1 := Lib.hid (Row10.keep hb1 R0.out); obtain ⟨p0, p1, p2, p3, p4, p5, p6, p7, p8, p9⟩ := R1.out.parts; clear hb1))
    | (go_at_call 10; ((with_reducible refine (K2.out _ B1.out).mono ?_); rintro e w2 ⟨rfl, hb2⟩; have B2 := Lib.hid (btr B1.out hb2); have R2 := Lib.hid (Row10.keep hb2 R1.out); obtain ⟨q0, q1, q2, q3, q4, q5, q6, q7, q8, q9⟩ := R2.out.parts; clear hb2))
    | (go_at_call 11; ((with_reducible refine (K3.out _ B2.out).mono ?_); rintro e w3 ⟨rfl, hb3⟩; have B3 := Lib.hid (btr B2.out hb3); clear hb3))
    | (go_at_call 7; ((with_reducible refine (told8_true _ (tb_on HT.out B3.out)).mono ?_); rintro e w4 ⟨rfl, hb4⟩; have B4 := Lib.hid (btr B3.out hb4); clear hb4; have hn4 := hnil w4)))
  go_ret
  exact ⟨by simp, B4.out⟩
set_option maxRecDepth 100000 in
set_option maxHeartbeats 2000000 in
theorem writes_some (hT : Tb w) (L : List UInt8) (N : Nat) (hN : L.length = N) (hl : N ≤ 65536)
    (k1 : ∀ W, Below w.heap.size w W → Calls Tryz.prog 8 #[V10 kd g x0 x1 x2 x3 b s la n lc ka m kc] W fun e w' => e = .returned (.bool true) ∧ Below W.heap.size W w')
    (k2 : ∀ W, Below w.heap.size w W → Calls Tryz.prog 10 #[V10 kd g x0 x1 x2 x3 b s la n lc ka m kc] W fun e w' => ∃ gg cap, e = .returned (.tuple #[.slice (some ⟨gg, 0, none⟩) N cap, .int .i64 0]) ∧ Hid (BytesAt w' gg 0 L) ∧ Below W.heap.size W w')
    (k3 : ∀ W, Below w.heap.size w W → Calls Tryz.prog 11 #[V10 kd g x0 x1 x2 x3 b s la n lc ka m kc] W fun e w' => e = .returned (.tuple #[.string (str L), .int .i64 0]) ∧ Below W.heap.size W w') :
    Calls Tryz.prog 4 #[V10 kd g x0 x1 x2 x3 b s la n lc ka m kc] w fun e w' => e = .returned (.bool true) ∧ Below w.heap.size w w' := by
  have K1 := Lib.hid k1; have K2 := Lib.hid k2; have HT := Lib.hid hT; have HN := Lib.hid hN
  obtain ⟨S, hS⟩ : ∃ S, str L = S := ⟨_, rfl⟩
  rw [hS] at k3
  have K3 := Lib.hid k3
  have HS := Lib.hid hS
  clear k1 k2 k3 hT hN hS
  have B0 := Lib.hid (bal (Below.refl _ w) (.cells #[.int .i64 kd, .bool g, .int .u64 x0, .int .u64 x1, .int .u64 x2, .int .u64 x3, .int .u64 b, .string s, .slice la n lc, .slice ka m kc] 33))
  have R0 := Lib.hid (Row10.new w (.int .i64 kd) (.bool g) (.int .u64 x0) (.int .u64 x1) (.int .u64 x2) (.int .u64 x3) (.int .u64 b) (.string s) (.slice la n lc) (.slice ka m kc))
  have hseq : (S.toList == S.toList) = true := by simp
  go_enter Tryz.func4, Tryz.ntmps4
  go_wp2_with (first
    | (go_at_call 8; ((with_reducible refine (K1.out _ B0.out).mono ?_); rintro e w1 ⟨rfl, hb1⟩; have B1 := Lib.hid (btr B0.out hb1); have R1 := Lib.hid (Row10.keep hb1 R0.out); obtain ⟨p0, p1, p2, p3, p4, p5, p6, p7, p8, p9⟩ := R1.out.parts; clear hb1))
    | (go_at_call 10; ((with_reducible refine (K2.out _ B1.out).mono ?_); rintro e w2 ⟨gg, cap, rfl, HB, hb2⟩; have B2 := Lib.hid (btr B1.out hb2); have R2 := Lib.hid (Row10.keep hb2 R1.out); obtain ⟨q0, q1, q2, q3, q4, q5, q6, q7, q8, q9⟩ := R2.out.parts; clear hb2))
    | (go_at_call 11; ((with_reducible refine (K3.out _ B2.out).mono ?_); rintro e w3 ⟨rfl, hb3⟩; have B3 := Lib.hid (btr B2.out hb3); have H3 := Lib.hid (HB.out.keep hb3); clear hb3))
    | (go_at_call 7; ((with_reducible refine (told8_true _ (tb_on HT.out B3.out)).mono ?_); rintro e w4 ⟨rfl, hb4⟩; have B4 := Lib.hid (btr B3.out hb4); have hcv := conv_bytes w4 gg 0 cap L (H3.out.keep hb4) N HN.out; rw [HS.out] at hcv; clear hb4)))
  go_ret
  exact ⟨by simp, B4.out⟩
end
/-- The law, for any value. -/
theorem cwrites_any (T : VT) (w : World) (hT : Tb w) (hI : T.In w) :
    Calls Tryz.prog 4 #[T.val] w fun e w' => e = .returned (.bool true) ∧ Below w.heap.size w w' := by
  have k1 := fun W (hb : Below w.heap.size w W) => vfew T W (hI.keep hb)
  cases hq : fewOk T with
  | false =>
    rw [hq] at k1
    exact writes_told _ _ _ _ _ _ _ _ _ _ _ _ _ _ w hT k1
  | true =>
    rw [hq] at k1
    obtain ⟨q1, q2, q3⟩ := few_q hq hI hT
    have q4 : T.Every TinyO := by
      unfold fewOk at hq
      exact few_tiny 40 T (of_decide_eq_true hq)
    have k2 := fun W (hb : Below w.heap.size w W) => enc_any T (by omega) W (q1.keep hb)
    have k3 := fun W (hb : Below w.heap.size w W) => renc_any T W (q1.keep hb) q2 q3 q4
    by_cases h0 : mayN T = 0
    · simp only [if_pos h0] at k3
      by_cases h1 : (encT T).length ≤ 65536
      · have hd : decide (65536 < (encT T).length) = false := decide_eq_false (by omega)
        simp only [hd, Bool.false_eq_true, if_false] at k3
        refine writes_some _ _ _ _ _ _ _ _ _ _ _ _ _ _ w hT (encT T) _ rfl h1 k1 (fun W hb => (k2 W hb).mono ?_) k3
        rintro e w' ⟨hE, hb'⟩
        rcases hE with ⟨m0, _⟩ | ⟨_, ml, _⟩ | ⟨_, _, g, cap, rfl, _, hB⟩
        · exact absurd h0 m0
        · omega
        · exact ⟨g, cap, rfl, hB, hb'⟩
      · have hd : decide (65536 < (encT T).length) = true := decide_eq_true (by omega)
        simp only [hd, if_true] at k3
        refine writes_none _ _ _ _ _ _ _ _ _ _ _ _ _ _ w hT 8 k1 (fun W hb => (k2 W hb).mono ?_) k3
        rintro e w' ⟨hE, hb'⟩
        rcases hE with ⟨m0, _⟩ | ⟨_, ml, rfl⟩ | ⟨_, hl, _⟩
        · exact absurd h0 m0
        · exact ⟨rfl, hb'⟩
        · exact absurd hl h1
    · simp only [if_neg h0] at k3
      refine writes_none _ _ _ _ _ _ _ _ _ _ _ _ _ _ w hT (mayN T) k1 (fun W hb => (k2 W hb).mono ?_) k3
      rintro e w' ⟨hE, hb'⟩
      rcases hE with ⟨_, rfl⟩ | ⟨m0, _⟩ | ⟨m0, _⟩
      · exact ⟨rfl, hb'⟩
      · exact absurd m0 h0
      · exact absurd m0 h0
end Go.Proofs.YtfaaagmjmljhiaaGreatDoor
