/-
  entrepotref6.EncodeJSON of every value that is few; entrepotlaw7.JsonWrites answers true for every value.
-/
import Derived.Test.YtocffoemimghhaaGreatDoorJsWrit
import Derived.Test.YtocffoemimghhaaGreatDoorR6InJ
import Derived.Test.YtocffoemimghhaaGreatDoorGJ5
namespace Go.Proofs.YtocffoemimghhaaGreatDoor
open Go.RowKit Go.Shelf
set_option linter.unusedVariables false

section
variable (kd : Int) (g : Bool) (x0 x1 x2 x3 bi : Int) (s : ByteArray) (la : Option Addr) (n lc : Nat) (ka : Option Addr) (m kc : Nat) (w : World)
set_option maxRecDepth 100000 in
theorem jrenc_no (z : Int) (hz : z ≠ 0)
    (k1 : ∀ W, Below w.heap.size w W → Calls Tryz.prog 17 #[V10 kd g x0 x1 x2 x3 bi s la n lc ka m kc] W fun e w' => e = .returned (.int .i64 z) ∧ Below W.heap.size W w') :
    Calls Tryz.prog 10 #[V10 kd g x0 x1 x2 x3 bi s la n lc ka m kc] w fun e w' => e = .returned (.tuple #[.string ⟨#[]⟩, .int .i64 z]) ∧ Below w.heap.size w w' := by
  have K1 := Lib.hid k1
  clear k1
  have hz2 : (z != 0) = true := by simpa using hz
  have B0 := Lib.hid (bal (Below.refl _ w) (.cells #[.int .i64 kd, .bool g, .int .u64 x0, .int .u64 x1, .int .u64 x2, .int .u64 x3, .int .u64 bi, .string s, .slice la n lc, .slice ka m kc] 30))
  go_enter Tryz.func10, Tryz.ntmps10
  go_wp2_with (go_at_call 17; ((with_reducible refine (K1.out _ B0.out).mono ?_); rintro e w1 ⟨rfl, hb⟩; have B1 := Lib.hid (btr B0.out hb); clear hb))
  go_ret2
  exact ⟨rfl, B1.out⟩
set_option maxRecDepth 100000 in
theorem jrenc_out
    (k1 : ∀ W, Below w.heap.size w W → Calls Tryz.prog 17 #[V10 kd g x0 x1 x2 x3 bi s la n lc ka m kc] W fun e w' => e = .returned (.int .i64 0) ∧ Below W.heap.size W w')
    (kin : ∀ W, Below w.heap.size w W → Calls Tryz.prog 18 #[V10 kd g x0 x1 x2 x3 bi s la n lc ka m kc, .int .i64 1] W fun e w' => e = .returned (.bool false) ∧ Below W.heap.size W w') :
    Calls Tryz.prog 10 #[V10 kd g x0 x1 x2 x3 bi s la n lc ka m kc] w fun e w' => e = .returned (.tuple #[.string ⟨#[]⟩, .int .i64 5]) ∧ Below w.heap.size w w' := by
  have K1 := Lib.hid k1; have KI := Lib.hid kin
  clear k1 kin
  have B0 := Lib.hid (bal (Below.refl _ w) (.cells #[.int .i64 kd, .bool g, .int .u64 x0, .int .u64 x1, .int .u64 x2, .int .u64 x3, .int .u64 bi, .string s, .slice la n lc, .slice ka m kc] 30))
  have R0 := Lib.hid (Row10.new w (.int .i64 kd) (.bool g) (.int .u64 x0) (.int .u64 x1) (.int .u64 x2) (.int .u64 x3) (.int .u64 bi) (.string s) (.slice la n lc) (.slice ka m kc))
  go_enter Tryz.func10, Tryz.ntmps10
  go_wp2_with (first
    | (go_at_call 17; ((with_reducible refine (K1.out _ B0.out).mono ?_); rintro e w1 ⟨rfl, hb⟩; have B1 := Lib.hid (btr B0.out hb); have R1 := Lib.hid (Row10.keep hb R0.out); obtain ⟨p0, p1, p2, p3, p4, p5, p6, p7, p8, p9⟩ := R1.out.parts; clear hb))
    | (go_at_call 18; ((with_reducible refine (KI.out _ B1.out).mono ?_); rintro e wi ⟨rfl, hbi⟩)))
  go_ret2
  exact ⟨rfl, btr B1.out hbi⟩
set_option maxRecDepth 100000 in
theorem jrenc_yes (S : ByteArray) (long : Bool) (hS : decide (65536 < S.size) = long)
    (k1 : ∀ W, Below w.heap.size w W → Calls Tryz.prog 17 #[V10 kd g x0 x1 x2 x3 bi s la n lc ka m kc] W fun e w' => e = .returned (.int .i64 0) ∧ Below W.heap.size W w')
    (kin : ∀ W, Below w.heap.size w W → Calls Tryz.prog 18 #[V10 kd g x0 x1 x2 x3 bi s la n lc ka m kc, .int .i64 1] W fun e w' => e = .returned (.bool true) ∧ Below W.heap.size W w')
    (k2 : ∀ W, Below w.heap.size w W → Calls Tryz.prog 19 #[V10 kd g x0 x1 x2 x3 bi s la n lc ka m kc] W fun e w' => e = .returned (.string S) ∧ Below W.heap.size W w') :
    Calls Tryz.prog 10 #[V10 kd g x0 x1 x2 x3 bi s la n lc ka m kc] w fun e w' => e = .returned (.tuple #[.string (if long then ⟨#[]⟩ else S), .int .i64 (if long then 8 else 0)]) ∧ Below w.heap.size w w' := by
  have K1 := Lib.hid k1; have K2 := Lib.hid k2; have KI := Lib.hid kin
  clear k1 k2 kin
  have B0 := Lib.hid (bal (Below.refl _ w) (.cells #[.int .i64 kd, .bool g, .int .u64 x0, .int .u64 x1, .int .u64 x2, .int .u64 x3, .int .u64 bi, .string s, .slice la n lc, .slice ka m kc] 30))
  have R0 := Lib.hid (Row10.new w (.int .i64 kd) (.bool g) (.int .u64 x0) (.int .u64 x1) (.int .u64 x2) (.int .u64 x3) (.int .u64 bi) (.string s) (.slice la n lc) (.slice ka m kc))
  cases long with
  | true =>
    have h1 : (65536 : Int) < (S.size : Int) := by have := of_decide_eq_true hS; omega
    clear hS
    go_enter Tryz.func10, Tryz.ntmps10
    go_wp2_with (first
      | (go_at_call 17; ((with_reducible refine (K1.out _ B0.out).mono ?_); rintro e w1 ⟨rfl, hb⟩; have B1 := Lib.hid (btr B0.out hb); have R1 := Lib.hid (Row10.keep hb R0.out); obtain ⟨p0, p1, p2, p3, p4, p5, p6, p7, p8, p9⟩ := R1.out.parts; clear hb))
      | (go_at_call 18; ((with_reducible refine (KI.out _ B1.out).mono ?_); rintro e wi ⟨rfl, hbi⟩; have Bi := Lib.hid (btr B1.out hbi); have Ri := Lib.hid (Row10.keep hbi R1.out); obtain ⟨p0, p1, p2, p3, p4, p5, p6, p7, p8, p9⟩ := Ri.out.parts; clear hbi))
      | (go_at_call 19; ((with_reducible refine (K2.out _ Bi.out).mono ?_); rintro e w2 ⟨rfl, hb2⟩)))
    go_ret2
    exact ⟨rfl, btr Bi.out hb2⟩
  | false =>
    have h1 : ¬ (65536 : Int) < (S.size : Int) := by have := of_decide_eq_false hS; omega
    clear hS
    go_enter Tryz.func10, Tryz.ntmps10
    go_wp2_with (first
      | (go_at_call 17; ((with_reducible refine (K1.out _ B0.out).mono ?_); rintro e w1 ⟨rfl, hb⟩; have B1 := Lib.hid (btr B0.out hb); have R1 := Lib.hid (Row10.keep hb R0.out); obtain ⟨p0, p1, p2, p3, p4, p5, p6, p7, p8, p9⟩ := R1.out.parts; clear hb))
      | (go_at_call 18; ((with_reducible refine (KI.out _ B1.out).mono ?_); rintro e wi ⟨rfl, hbi⟩; have Bi := Lib.hid (btr B1.out hbi); have Ri := Lib.hid (Row10.keep hbi R1.out); obtain ⟨p0, p1, p2, p3, p4, p5, p6, p7, p8, p9⟩ := Ri.out.parts; clear hbi))
      | (go_at_call 19; ((with_reducible refine (K2.out _ Bi.out).mono ?_); rintro e w2 ⟨rfl, hb2⟩)))
    go_ret2
    exact ⟨rfl, btr Bi.out hb2⟩
end
/-- What the reference's EncodeJSON answers: the text, or none and a number. -/
def jres (T : VT) : Option (List UInt8) × Int := if mayN T = 0 then (if hasT notJsonT T then (none, 5) else if 65536 < (jencT T).length then (none, 8) else (some (jencT T), 0)) else (none, mayN T)
theorem jrenc_any (T : VT) (w : World) (hQ : Qv T w) (hn : T.nodes ≤ 400) (hd : T.depth ≤ 40) (hE : T.Every TinyO) :
    Calls Tryz.prog 10 #[T.val] w fun e w' => e = .returned (.tuple #[.string (match (jres T).1 with | some l => str l | none => ⟨#[]⟩), .int .i64 (jres T).2]) ∧ Below w.heap.size w w' := by
  have k1 := fun W (hb : Below w.heap.size w W) => r6may_few T W (hQ.keep hb) hn hd hE
  have ki := fun W (hb : Below w.heap.size w W) => rin_json T W (hQ.keep hb) hn hd hE
  by_cases h0 : mayN T = 0
  · rw [h0] at k1
    have hin : inB T 1 = !hasT notJsonT T := by unfold inB; rw [if_pos h0, if_pos rfl]
    rw [hin] at ki
    have hG := (gd_of hQ.ins h0).1
    cases hj : hasT notJsonT T with
    | true =>
      rw [hj] at ki
      have hr : jres T = (none, 5) := by unfold jres; rw [if_pos h0, if_pos hj]
      rw [hr]
      exact jrenc_out _ _ _ _ _ _ _ _ _ _ _ _ _ _ w k1 ki
    | false =>
      rw [hj] at ki
      have k2 := fun W (hb : Below w.heap.size w W) => rwritten T hE hG hj hn W (hQ.ins.keep hb)
      have hj2 : ¬ hasT notJsonT T = true := by rw [hj]; decide
      by_cases h1 : 65536 < (jencT T).length
      · have hr : jres T = (none, 8) := by unfold jres; rw [if_pos h0, if_neg hj2, if_pos h1]
        rw [hr]
        exact jrenc_yes _ _ _ _ _ _ _ _ _ _ _ _ _ _ w (str (jencT T)) true (by rw [str_size]; exact decide_eq_true h1) k1 ki k2
      · have hr : jres T = (some (jencT T), 0) := by unfold jres; rw [if_pos h0, if_neg hj2, if_neg h1]
        rw [hr]
        exact jrenc_yes _ _ _ _ _ _ _ _ _ _ _ _ _ _ w (str (jencT T)) false (by rw [str_size]; exact decide_eq_false h1) k1 ki k2
  · have hr : jres T = (none, mayN T) := by unfold jres; rw [if_neg h0]
    rw [hr]
    exact jrenc_no _ _ _ _ _ _ _ _ _ _ _ _ _ _ w (mayN T) h0 k1
section
variable (kd : Int) (g : Bool) (x0 x1 x2 x3 b : Int) (s : ByteArray) (la : Option Addr) (n lc : Nat) (ka : Option Addr) (m kc : Nat) (w : World)
set_option maxRecDepth 100000 in
theorem jwrites_told (hT : Tabs w)
    (k1 : ∀ W, Below w.heap.size w W → Calls Tryz.prog 7 #[V10 kd g x0 x1 x2 x3 b s la n lc ka m kc] W fun e w' => e = .returned (.bool false) ∧ Below W.heap.size W w') :
    Calls Tryz.prog 3 #[V10 kd g x0 x1 x2 x3 b s la n lc ka m kc] w fun e w' => e = .returned (.bool true) ∧ Below w.heap.size w w' := by
  have K1 := Lib.hid k1; have HT := Lib.hid hT
  clear k1 hT
  have B0 := Lib.hid (bal (Below.refl _ w) (.cells #[.int .i64 kd, .bool g, .int .u64 x0, .int .u64 x1, .int .u64 x2, .int .u64 x3, .int .u64 b, .string s, .slice la n lc, .slice ka m kc] 30))
  go_enter Tryz.func3, Tryz.ntmps3
  go_wp2_with (first | (go_at_call 7; ((with_reducible refine (K1.out _ B0.out).mono ?_); rintro e w1 ⟨rfl, hb1⟩)) | (go_at_call 8; ((with_reducible refine (told7_true _ (tabs_on (tabs_on HT.out B0.out) hb1)).mono ?_); rintro e w2 ⟨rfl, hb2⟩)))
  go_ret
  exact ⟨rfl, btr (btr B0.out hb1) hb2⟩
set_option maxRecDepth 100000 in
set_option maxHeartbeats 2000000 in
theorem jwrites_none (hT : Tabs w) (z : Int)
    (k1 : ∀ W, Below w.heap.size w W → Calls Tryz.prog 7 #[V10 kd g x0 x1 x2 x3 b s la n lc ka m kc] W fun e w' => e = .returned (.bool true) ∧ Below W.heap.size W w')
    (k2 : ∀ W, Below w.heap.size w W → Calls Tryz.prog 9 #[V10 kd g x0 x1 x2 x3 b s la n lc ka m kc] W fun e w' => e = .returned (.tuple #[.slice none 0 0, .int .i64 z]) ∧ Below W.heap.size W w')
    (k3 : ∀ W, Below w.heap.size w W → Calls Tryz.prog 10 #[V10 kd g x0 x1 x2 x3 b s la n lc ka m kc] W fun e w' => e = .returned (.tuple #[.string ⟨#[]⟩, .int .i64 z]) ∧ Below W.heap.size W w') :
    Calls Tryz.prog 3 #[V10 kd g x0 x1 x2 x3 b s la n lc ka m kc] w fun e w' => e = .returned (.bool true) ∧ Below w.heap.size w w' := by
  have K1 := Lib.hid k1; have K2 := Lib.hid k2; have K3 := Lib.hid k3; have HT := Lib.hid hT
  clear k1 k2 k3 hT
  have B0 := Lib.hid (bal (Below.refl _ w) (.cells #[.int .i64 kd, .bool g, .int .u64 x0, .int .u64 x1, .int .u64 x2, .int .u64 x3, .int .u64 b, .string s, .slice la n lc, .slice ka m kc] 30))
  have R0 := Lib.hid (Row10.new w (.int .i64 kd) (.bool g) (.int .u64 x0) (.int .u64 x1) (.int .u64 x2) (.int .u64 x3) (.int .u64 b) (.string s) (.slice la n lc) (.slice ka m kc))
  have hzz : (z == z) = true := by simp
  have hnil : ∀ W : World, (convert 33 9 (.slice none 0 0)).run Tryz.prog W = .ok (.string ⟨#[]⟩) W := fun W => run_convert_bytes_nil (P := Tryz.prog) (w := W) 33 5 (by kernel_rfl) (by kernel_rfl) 0 0 9 (by kernel_rfl)
  go_enter Tryz.func3, Tryz.ntmps3
  go_wp2_with (first
    | (go_at_call 7; ((with_reducible refine (K1.out _ B0.out).mono ?_); rintro e w1 ⟨rfl, hb1⟩; have B1 := Lib.hid (btr B0.out hb1); have R1 := Lib.hid (Row10.keep hb1 R0.out); obtain ⟨p0, p1, p2, p3, p4, p5, p6, p7, p8, p9⟩ := R1.out.parts; clear hb1))
    | (go_at_call 9; ((with_reducible refine (K2.out _ B1.out).mono ?_); rintro e w2 ⟨rfl, hb2⟩; have B2 := Lib.hid (btr B1.out hb2); have R2 := Lib.hid (Row10.keep hb2 R1.out); obtain ⟨q0, q1, q2, q3, q4, q5, q6, q7, q8, q9⟩ := R2.out.parts; clear hb2))
    | (go_at_call 10; ((with_reducible refine (K3.out _ B2.out).mono ?_); rintro e w3 ⟨rfl, hb3⟩; have B3 := Lib.hid (btr B2.out hb3); clear hb3))
    | (go_at_call 8; ((with_reducible refine (told7_true _ (tabs_on HT.out B3.out)).mono ?_); rintro e w4 ⟨rfl, hb4⟩; have B4 := Lib.hid (btr B3.out hb4); clear hb4; have hn4 := hnil w4)))
  go_ret
  exact ⟨by simp, B4.out⟩
set_option maxRecDepth 100000 in
set_option maxHeartbeats 2000000 in
theorem jwrites_some (hT : Tabs w) (L : List UInt8) (N : Nat) (hN : L.length = N) (hl : N ≤ 65536)
    (k1 : ∀ W, Below w.heap.size w W → Calls Tryz.prog 7 #[V10 kd g x0 x1 x2 x3 b s la n lc ka m kc] W fun e w' => e = .returned (.bool true) ∧ Below W.heap.size W w')
    (k2 : ∀ W, Below w.heap.size w W → Calls Tryz.prog 9 #[V10 kd g x0 x1 x2 x3 b s la n lc ka m kc] W fun e w' => ∃ gg cap, e = .returned (.tuple #[.slice (some ⟨gg, 0, none⟩) N cap, .int .i64 0]) ∧ Hid (BytesAt w' gg 0 L) ∧ Below W.heap.size W w')
    (k3 : ∀ W, Below w.heap.size w W → Calls Tryz.prog 10 #[V10 kd g x0 x1 x2 x3 b s la n lc ka m kc] W fun e w' => e = .returned (.tuple #[.string (str L), .int .i64 0]) ∧ Below W.heap.size W w') :
    Calls Tryz.prog 3 #[V10 kd g x0 x1 x2 x3 b s la n lc ka m kc] w fun e w' => e = .returned (.bool true) ∧ Below w.heap.size w w' := by
  have K1 := Lib.hid k1; have K2 := Lib.hid k2; have HT := Lib.hid hT; have HN := Lib.hid hN
  obtain ⟨S, hS⟩ : ∃ S, str L = S := ⟨_, rfl⟩
  rw [hS] at k3
  have K3 := Lib.hid k3
  have HS := Lib.hid hS
  clear k1 k2 k3 hT hN hS
  have B0 := Lib.hid (bal (Below.refl _ w) (.cells #[.int .i64 kd, .bool g, .int .u64 x0, .int .u64 x1, .int .u64 x2, .int .u64 x3, .int .u64 b, .string s, .slice la n lc, .slice ka m kc] 30))
  have R0 := Lib.hid (Row10.new w (.int .i64 kd) (.bool g) (.int .u64 x0) (.int .u64 x1) (.int .u64 x2) (.int .u64 x3) (.int .u64 b) (.string s) (.slice la n lc) (.slice ka m kc))
  have hseq : (S.toList == S.toList) = true := by simp
  go_enter Tryz.func3, Tryz.ntmps3
  go_wp2_with (first
    | (go_at_call 7; ((with_reducible refine (K1.out _ B0.out).mono ?_); rintro e w1 ⟨rfl, hb1⟩; have B1 := Lib.hid (btr B0.out hb1); have R1 := Lib.hid (Row10.keep hb1 R0.out); obtain ⟨p0, p1, p2, p3, p4, p5, p6, p7, p8, p9⟩ := R1.out.parts; clear hb1))
    | (go_at_call 9; ((with_reducible refine (K2.out _ B1.out).mono ?_); rintro e w2 ⟨gg, cap, rfl, HB, hb2⟩; have B2 := Lib.hid (btr B1.out hb2); have R2 := Lib.hid (Row10.keep hb2 R1.out); obtain ⟨q0, q1, q2, q3, q4, q5, q6, q7, q8, q9⟩ := R2.out.parts; clear hb2))
    | (go_at_call 10; ((with_reducible refine (K3.out _ B2.out).mono ?_); rintro e w3 ⟨rfl, hb3⟩; have B3 := Lib.hid (btr B2.out hb3); have H3 := Lib.hid (HB.out.keep hb3); clear hb3))
    | (go_at_call 8; ((with_reducible refine (told7_true _ (tabs_on HT.out B3.out)).mono ?_); rintro e w4 ⟨rfl, hb4⟩; have B4 := Lib.hid (btr B3.out hb4); have hcv := conv_bytes w4 gg 0 cap L (H3.out.keep hb4) N HN.out; rw [HS.out] at hcv; clear hb4)))
  go_ret
  exact ⟨by simp, B4.out⟩
end
/-- The law, for any value. -/
theorem jwrites_any (T : VT) (w : World) (hT : Tabs w) (hI : T.In w) :
    Calls Tryz.prog 3 #[T.val] w fun e w' => e = .returned (.bool true) ∧ Below w.heap.size w w' := by
  have k1 := fun W (hb : Below w.heap.size w W) => vfew T W (hI.keep hb)
  cases hq : fewOk T with
  | false =>
    rw [hq] at k1
    exact jwrites_told _ _ _ _ _ _ _ _ _ _ _ _ _ _ w hT k1
  | true =>
    rw [hq] at k1
    obtain ⟨q1, q2, q3⟩ := few_q hq hI hT.2
    have q4 : T.Every TinyO := by
      unfold fewOk at hq
      exact few_tiny 40 T (of_decide_eq_true hq)
    have k2 := fun W (hb : Below w.heap.size w W) => jenc_any T (by omega) W (q1.keep hb) (tabs_on hT hb)
    have k3 := fun W (hb : Below w.heap.size w W) => jrenc_any T W (q1.keep hb) q2 q3 q4
    by_cases h0 : mayN T = 0
    · cases hj : hasT notJsonT T with
      | true =>
        have hr : jres T = (none, 5) := by unfold jres; rw [if_pos h0, if_pos hj]
        simp only [hr] at k3
        refine jwrites_none _ _ _ _ _ _ _ _ _ _ _ _ _ _ w hT 5 k1 (fun W hb => (k2 W hb).mono ?_) k3
        rintro e w' ⟨hE, hb'⟩
        rcases hE with ⟨m0, _⟩ | ⟨_, _, rfl⟩ | ⟨_, mj, _⟩ | ⟨_, mj, _⟩
        · exact absurd h0 m0
        · exact ⟨rfl, hb'⟩
        · rw [hj] at mj; cases mj
        · rw [hj] at mj; cases mj
      | false =>
        have hj2 : ¬ hasT notJsonT T = true := by rw [hj]; decide
        by_cases h1 : (jencT T).length ≤ 65536
        · have hr : jres T = (some (jencT T), 0) := by unfold jres; rw [if_pos h0, if_neg hj2, if_neg (by omega)]
          simp only [hr] at k3
          refine jwrites_some _ _ _ _ _ _ _ _ _ _ _ _ _ _ w hT (jencT T) _ rfl h1 k1 (fun W hb => (k2 W hb).mono ?_) k3
          rintro e w' ⟨hE, hb'⟩
          rcases hE with ⟨m0, _⟩ | ⟨_, mj, _⟩ | ⟨_, _, ml, _⟩ | ⟨_, _, _, g, cap, rfl, _, hB⟩
          · exact absurd h0 m0
          · rw [hj] at mj; cases mj
          · omega
          · exact ⟨g, cap, rfl, hB, hb'⟩
        · have hr : jres T = (none, 8) := by unfold jres; rw [if_pos h0, if_neg hj2, if_pos (by omega)]
          simp only [hr] at k3
          refine jwrites_none _ _ _ _ _ _ _ _ _ _ _ _ _ _ w hT 8 k1 (fun W hb => (k2 W hb).mono ?_) k3
          rintro e w' ⟨hE, hb'⟩
          rcases hE with ⟨m0, _⟩ | ⟨_, mj, _⟩ | ⟨_, _, _, rfl⟩ | ⟨_, _, hl, _⟩
          · exact absurd h0 m0
          · rw [hj] at mj; cases mj
          · exact ⟨rfl, hb'⟩
          · exact absurd hl h1
    · have hr : jres T = (none, mayN T) := by unfold jres; rw [if_neg h0]
      simp only [hr] at k3
      refine jwrites_none _ _ _ _ _ _ _ _ _ _ _ _ _ _ w hT (mayN T) k1 (fun W hb => (k2 W hb).mono ?_) k3
      rintro e w' ⟨hE, hb'⟩
      rcases hE with ⟨_, rfl⟩ | ⟨m0, _⟩ | ⟨m0, _⟩ | ⟨m0, _⟩
      · exact ⟨rfl, hb'⟩
      · exact absurd m0 h0
      · exact absurd m0 h0
      · exact absurd m0 h0
end Go.Proofs.YtocffoemimghhaaGreatDoor
