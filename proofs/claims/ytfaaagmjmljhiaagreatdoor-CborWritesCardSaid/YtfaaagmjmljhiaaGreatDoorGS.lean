/-
  CbBeh CbDec CbTextT CbFlat CbTold, one behind the other: a claim holds at most 60 files.
-/
import Derived.Test.YtfaaagmjmljhiaaGreatDoorGR
import Derived.Test.YtfaaagmjmljhiaaGreatDoorValNumber
import Derived.Test.YtfaaagmjmljhiaaGreatDoorGJ
import Derived.Test.YtfaaagmjmljhiaaGreatDoorValTold
section
namespace Go.Proofs.YtfaaagmjmljhiaaGreatDoor
open Go.RowKit Go.Shelf
open Go.Sort (grow)
set_option linter.unusedVariables false

/-- The world in which behind has counted a node and laid its two blocks. -/
abbrev behW (w : World) (b : Nat) (nd2 dp2 m a n : Int) : World :=
  (((w.setCell ⟨b, 1, none⟩ (.int .i64 nd2)).setCell ⟨b, 2, none⟩ (.int .i64 dp2)).alloc (.cells #[.int .i64 m, .int .i64 a, .int .u64 n] 69)).alloc (.cells #[.int .i64 0, .bool false, .int .u64 0, .int .u64 0, .int .u64 0, .int .u64 0, .int .u64 0, .string ⟨#[]⟩, .slice none 0 0, .slice none 0 0] 33)
theorem beh_facts (m a n : Int) (S : ByteArray) (b : Nat) (nd dp : Int) (lg un : Bool) (w : World) (h : Cr w b S nd dp lg un) (nd2 dp2 : Int) :
    Hb (behW w b nd2 dp2 m a n) w.heap.size m a n ∧ Row10 (behW w b nd2 dp2 m a n) (w.heap.size + 1) (.int .i64 0) (.bool false) (.int .u64 0) (.int .u64 0) (.int .u64 0) (.int .u64 0) (.int .u64 0) (.string ⟨#[]⟩) (.slice none 0 0) (.slice none 0 0) ∧ Cr (behW w b nd2 dp2 m a n) b S nd2 dp2 lg un ∧ But w.heap.size b w (behW w b nd2 dp2 m a n) := by
  refine ⟨?_, ?_, ?_, ?_⟩
  · exact (Hb.new' _ (by simp) _ _ _).alloc _
  · exact Row10.new' _ (by simp) _ _ _ _ _ _ _ _ _ _
  · exact ((((h.nodes nd2).deep dp2).alloc _).alloc _)
  · exact ((((But.refl _ _ _).store 1 _).store 2 _).made (by simp) _).made (by simp) _
set_option maxRecDepth 100000 in
theorem behind_uint (a n : Nat) (hn : n < 18446744073709551616) (level : Int) (S : ByteArray) (b : Nat) (nd dp : Int) (hnd : 0 ≤ nd) (hnd2 : nd ≤ 1000000) (lg un : Bool) (w : World) (h : Cr w b S nd dp lg un) :
    Calls Tryz.prog 40 #[.pointer (some ⟨b, 0, none⟩), HdV 0 a n, .int .i64 level] w fun e w' => e = .returned (.tuple #[V10 3 false n 0 0 0 0 ⟨#[]⟩ none 0 0 none 0 0, .bool true]) ∧ Cr w' b S (nd + 1) (max dp level) lg un ∧ But w.heap.size b w w' := by
  have k1 := fun W => ofUint_any (n : Int) W
  have K1 := Lib.hid k1
  clear k1
  have hlt := h.lt
  have hne : w.heap.size + 1 ≠ b := by omega
  have hnq : w.heap.size ≠ b := by omega
  have hwp : w.heap.size ≤ w.heap.size + 1 := by omega
  obtain ⟨Q1, Z1, C1, B1⟩ := beh_facts 0 a n S b nd dp lg un w h (nd + 1) (max dp level)
  have HQ := Lib.hid Q1; have HZ := Lib.hid Z1; have HC := Lib.hid C1; have HB := Lib.hid B1
  obtain ⟨q0, q1, q2⟩ := Q1.parts
  have p1 := fun o o' => ((h.alloc o).alloc o').parts.2.1
  have pf := fun o o' i => ((h.alloc o).alloc o').free i
  have p2 := fun o o' => (((h.nodes (nd + 1)).alloc o).alloc o').parts.2.2.1
  have pg := fun o o' i => (((h.nodes (nd + 1)).alloc o).alloc o').free i
  clear Q1 Z1 C1 B1
  go_enter Tryz.func40, Tryz.ntmps40
  go_wp2_with (go_at_call 69; ((with_reducible refine (K1.out _).mono ?_); rintro e w2 ⟨rfl, hb⟩; have Z2 := Row10.keep hb HZ.out; have C2 := Lib.hid (HC.out.keep hb); have B2 := Lib.hid (HB.out.seq (But.of hb)); obtain ⟨z0, z1, z2, z3, z4, z5, z6, z7, z8, z9⟩ := Z2.parts; have zf := Z2.free; have zl := Z2.lt; clear hb))
  obtain ⟨y0, y1, y2, y3, y4, y5, y6, y7, y8, y9⟩ := (Z2.set10 (.int .i64 3) (.bool false) (.int .u64 n) (.int .u64 0) (.int .u64 0) (.int .u64 0) (.int .u64 0) (.string ⟨#[]⟩) (.slice none 0 0) (.slice none 0 0)).parts
  exact bodyPost_ret (v := .tuple #[V10 3 false n 0 0 0 0 ⟨#[]⟩ none 0 0 none 0 0, .bool true]) (by simp [results, Tryz.results40, go_sem, y0, y1, y2, y3, y4, y5, y6, y7, y8, y9]) rfl ⟨rfl, C2.out.set10 hne.symm _ _ _ _ _ _ _ _ _ _, B2.out.stored10 hwp _ _ _ _ _ _ _ _ _ _⟩
set_option maxRecDepth 100000 in
set_option maxHeartbeats 1000000 in
theorem behind_neg (a n : Nat) (hn : n < 18446744073709551616) (level : Int) (S : ByteArray) (b : Nat) (nd dp : Int) (hnd : 0 ≤ nd) (hnd2 : nd ≤ 1000000) (lg un : Bool) (w : World) (h : Cr w b S nd dp lg un) :
    Calls Tryz.prog 40 #[.pointer (some ⟨b, 0, none⟩), HdV 1 a n, .int .i64 level] w fun e w' => e = .returned (.tuple #[V10 3 true (lb 0 (n + 1)) (lb 1 (n + 1)) (lb 2 (n + 1)) (lb 3 (n + 1)) 0 ⟨#[]⟩ none 0 0 none 0 0, .bool true]) ∧ Cr w' b S (nd + 1) (max dp level) lg un ∧ But w.heap.size b w w' := by
  have k1 := fun W => of_any (n : Int) W
  have k2 := fun W => below_ok n (Nat.lt_of_le_of_lt (show n + 1 ≤ 18446744073709551616 by omega) (by decide)) W
  rw [show N4 n = .agg #[.int .u64 n, .int .u64 0, .int .u64 0, .int .u64 0] from N4_small n hn] at k2
  have K1 := Lib.hid k1
  have K2 := Lib.hid k2
  clear k1 k2
  generalize lb 0 (n + 1) = u0 at *
  generalize lb 1 (n + 1) = u1 at *
  generalize lb 2 (n + 1) = u2 at *
  generalize lb 3 (n + 1) = u3 at *
  have KN := Lib.hid (fun (W : World) (h : Cr W b S (nd + 1) (max dp level) lg un) => number_ok true u0 u1 u2 u3 S b (nd + 1) (max dp level) lg un W h)
  have hlt := h.lt
  have hne : w.heap.size + 1 ≠ b := by omega
  have hnq : w.heap.size ≠ b := by omega
  have hwp : w.heap.size ≤ w.heap.size + 1 := by omega
  obtain ⟨Q1, Z1, C1, B1⟩ := beh_facts 1 a n S b nd dp lg un w h (nd + 1) (max dp level)
  have HQ := Lib.hid Q1; have HZ := Lib.hid Z1; have HC := Lib.hid C1; have HB := Lib.hid B1
  obtain ⟨q0, q1, q2⟩ := Q1.parts
  have p1 := fun o o' => ((h.alloc o).alloc o').parts.2.1
  have pf := fun o o' i => ((h.alloc o).alloc o').free i
  have p2 := fun o o' => (((h.nodes (nd + 1)).alloc o).alloc o').parts.2.2.1
  have pg := fun o o' i => (((h.nodes (nd + 1)).alloc o).alloc o').free i
  clear Q1 Z1 C1 B1
  go_enter Tryz.func40, Tryz.ntmps40
  go_wp2_with (first
    | (go_at_call 55; ((with_reducible refine (K1.out _).mono ?_); rintro e w2 ⟨rfl, hb⟩; have Z2 := Lib.hid (Row10.keep hb HZ.out); have C2 := Lib.hid (HC.out.keep hb); have B2 := Lib.hid (HB.out.seq (But.of hb)); clear hb))
    | (go_at_call 71; ((with_reducible refine (K2.out _).mono ?_); rintro e w3 ⟨rfl, hb⟩; have Z3 := Lib.hid (Row10.keep hb Z2.out); have C3 := Lib.hid (C2.out.keep hb); have B3 := Lib.hid (B2.out.seq (But.of hb)); clear hb Z2 C2 B2))
    | (go_at_call 70; ((with_reducible refine (KN.out _ C3.out).mono ?_); rintro e w4 ⟨rfl, hc, hb⟩; have Z2 := Z3.out.but hb hne; have C2 := Lib.hid hc; have B2 := Lib.hid (B3.out.seq hb); obtain ⟨z0, z1, z2, z3, z4, z5, z6, z7, z8, z9⟩ := Z2.parts; have zf := Z2.free; have zl := Z2.lt; clear hb hc Z3 C3 B3)))
  obtain ⟨y0, y1, y2, y3, y4, y5, y6, y7, y8, y9⟩ := (Z2.set10 (.int .i64 3) (.bool true) (.int .u64 u0) (.int .u64 u1) (.int .u64 u2) (.int .u64 u3) (.int .u64 0) (.string ⟨#[]⟩) (.slice none 0 0) (.slice none 0 0)).parts
  exact bodyPost_ret (v := .tuple #[V10 3 true u0 u1 u2 u3 0 ⟨#[]⟩ none 0 0 none 0 0, .bool true]) (by simp [results, Tryz.results40, go_sem, y0, y1, y2, y3, y4, y5, y6, y7, y8, y9]) rfl ⟨rfl, C2.out.set10 hne.symm _ _ _ _ _ _ _ _ _ _, B2.out.stored10 hwp _ _ _ _ _ _ _ _ _ _⟩
set_option maxRecDepth 100000 in
theorem behind_bytes (a n : Nat) (T R : ByteArray) (q lg2 : Bool) (level : Int) (S : ByteArray) (b : Nat) (nd dp : Int) (hnd : 0 ≤ nd) (hnd2 : nd ≤ 1000000) (lg un : Bool) (w : World) (h : Cr w b S nd dp lg un)
    (k1 : ∀ W, Cr W b S (nd + 1) (max dp level) lg un → Calls Tryz.prog 72 #[.pointer (some ⟨b, 0, none⟩), HdV 2 a n] W fun e w' => e = .returned (.tuple #[.string T, .bool q]) ∧ Cr w' b R (nd + 1) (max dp level) lg2 un ∧ But W.heap.size b W w') :
    Calls Tryz.prog 40 #[.pointer (some ⟨b, 0, none⟩), HdV 2 a n, .int .i64 level] w fun e w' => e = .returned (.tuple #[V10 6 false 0 0 0 0 0 T none 0 0 none 0 0, .bool q]) ∧ Cr w' b R (nd + 1) (max dp level) lg2 un ∧ But w.heap.size b w w' := by
  have K1 := Lib.hid k1
  clear k1
  have hlt := h.lt
  have hne : w.heap.size + 1 ≠ b := by omega
  have hnq : w.heap.size ≠ b := by omega
  have hwp : w.heap.size ≤ w.heap.size + 1 := by omega
  obtain ⟨Q1, Z1, C1, B1⟩ := beh_facts 2 a n S b nd dp lg un w h (nd + 1) (max dp level)
  have HQ := Lib.hid Q1; have HZ := Lib.hid Z1; have HC := Lib.hid C1; have HB := Lib.hid B1
  obtain ⟨q0, q1, q2⟩ := Q1.parts
  have p1 := fun o o' => ((h.alloc o).alloc o').parts.2.1
  have pf := fun o o' i => ((h.alloc o).alloc o').free i
  have p2 := fun o o' => (((h.nodes (nd + 1)).alloc o).alloc o').parts.2.2.1
  have pg := fun o o' i => (((h.nodes (nd + 1)).alloc o).alloc o').free i
  clear Q1 Z1 C1 B1
  go_enter Tryz.func40, Tryz.ntmps40
  go_wp2_with (go_at_call 72; ((with_reducible refine (K1.out _ HC.out).mono ?_); rintro e w2 ⟨rfl, hc, hb⟩; have Z2 := HZ.out.but hb hne; have C2 := Lib.hid hc; have B2 := Lib.hid (HB.out.seq hb); obtain ⟨z0, z1, z2, z3, z4, z5, z6, z7, z8, z9⟩ := Z2.parts; have zf := Z2.free; have zl := Z2.lt; clear hb hc))
  obtain ⟨y0, y1, y2, y3, y4, y5, y6, y7, y8, y9⟩ := (Z2.set10 (.int .i64 6) (.bool false) (.int .u64 0) (.int .u64 0) (.int .u64 0) (.int .u64 0) (.int .u64 0) (.string T) (.slice none 0 0) (.slice none 0 0)).parts
  exact bodyPost_ret (v := .tuple #[V10 6 false 0 0 0 0 0 T none 0 0 none 0 0, .bool q]) (by simp [results, Tryz.results40, go_sem, y0, y1, y2, y3, y4, y5, y6, y7, y8, y9]) rfl ⟨rfl, C2.out.set10 hne.symm _ _ _ _ _ _ _ _ _ _, B2.out.stored10 hwp _ _ _ _ _ _ _ _ _ _⟩
set_option maxRecDepth 100000 in
theorem behind_text (a n : Nat) (T R : ByteArray) (q lg2 : Bool) (level : Int) (S : ByteArray) (b : Nat) (nd dp : Int) (hnd : 0 ≤ nd) (hnd2 : nd ≤ 1000000) (lg un : Bool) (w : World) (h : Cr w b S nd dp lg un)
    (k1 : ∀ W, Cr W b S (nd + 1) (max dp level) lg un → Calls Tryz.prog 72 #[.pointer (some ⟨b, 0, none⟩), HdV 3 a n] W fun e w' => e = .returned (.tuple #[.string T, .bool q]) ∧ Cr w' b R (nd + 1) (max dp level) lg2 un ∧ But W.heap.size b W w') :
    Calls Tryz.prog 40 #[.pointer (some ⟨b, 0, none⟩), HdV 3 a n, .int .i64 level] w fun e w' => e = .returned (.tuple #[V10 5 false 0 0 0 0 0 T none 0 0 none 0 0, .bool q]) ∧ Cr w' b R (nd + 1) (max dp level) lg2 un ∧ But w.heap.size b w w' := by
  have K1 := Lib.hid k1
  clear k1
  have hlt := h.lt
  have hne : w.heap.size + 1 ≠ b := by omega
  have hnq : w.heap.size ≠ b := by omega
  have hwp : w.heap.size ≤ w.heap.size + 1 := by omega
  obtain ⟨Q1, Z1, C1, B1⟩ := beh_facts 3 a n S b nd dp lg un w h (nd + 1) (max dp level)
  have HQ := Lib.hid Q1; have HZ := Lib.hid Z1; have HC := Lib.hid C1; have HB := Lib.hid B1
  obtain ⟨q0, q1, q2⟩ := Q1.parts
  have p1 := fun o o' => ((h.alloc o).alloc o').parts.2.1
  have pf := fun o o' i => ((h.alloc o).alloc o').free i
  have p2 := fun o o' => (((h.nodes (nd + 1)).alloc o).alloc o').parts.2.2.1
  have pg := fun o o' i => (((h.nodes (nd + 1)).alloc o).alloc o').free i
  clear Q1 Z1 C1 B1
  go_enter Tryz.func40, Tryz.ntmps40
  go_wp2_with (go_at_call 72; ((with_reducible refine (K1.out _ HC.out).mono ?_); rintro e w2 ⟨rfl, hc, hb⟩; have Z2 := HZ.out.but hb hne; have C2 := Lib.hid hc; have B2 := Lib.hid (HB.out.seq hb); obtain ⟨z0, z1, z2, z3, z4, z5, z6, z7, z8, z9⟩ := Z2.parts; have zf := Z2.free; have zl := Z2.lt; clear hb hc))
  obtain ⟨y0, y1, y2, y3, y4, y5, y6, y7, y8, y9⟩ := (Z2.set10 (.int .i64 5) (.bool false) (.int .u64 0) (.int .u64 0) (.int .u64 0) (.int .u64 0) (.int .u64 0) (.string T) (.slice none 0 0) (.slice none 0 0)).parts
  exact bodyPost_ret (v := .tuple #[V10 5 false 0 0 0 0 0 T none 0 0 none 0 0, .bool q]) (by simp [results, Tryz.results40, go_sem, y0, y1, y2, y3, y4, y5, y6, y7, y8, y9]) rfl ⟨rfl, C2.out.set10 hne.symm _ _ _ _ _ _ _ _ _ _, B2.out.stored10 hwp _ _ _ _ _ _ _ _ _ _⟩
set_option maxRecDepth 100000 in
theorem behind_simple (a n : Nat) (kd : Int) (g : Bool) (x0 x1 x2 x3 bi : Int) (q un2 : Bool) (level : Int) (S : ByteArray) (b : Nat) (nd dp : Int) (hnd : 0 ≤ nd) (hnd2 : nd ≤ 1000000) (lg un : Bool) (w : World) (h : Cr w b S nd dp lg un)
    (k1 : ∀ W, But w.heap.size b w W → Cr W b S (nd + 1) (max dp level) lg un → Calls Tryz.prog 75 #[.pointer (some ⟨b, 0, none⟩), HdV 7 a n] W fun e w' => e = .returned (.tuple #[V10 kd g x0 x1 x2 x3 bi ⟨#[]⟩ none 0 0 none 0 0, .bool q]) ∧ Cr w' b S (nd + 1) (max dp level) lg un2 ∧ But W.heap.size b W w') :
    Calls Tryz.prog 40 #[.pointer (some ⟨b, 0, none⟩), HdV 7 a n, .int .i64 level] w fun e w' => e = .returned (.tuple #[V10 kd g x0 x1 x2 x3 bi ⟨#[]⟩ none 0 0 none 0 0, .bool q]) ∧ Cr w' b S (nd + 1) (max dp level) lg un2 ∧ But w.heap.size b w w' := by
  have K1 := Lib.hid k1
  clear k1
  have hlt := h.lt
  have hne : w.heap.size + 1 ≠ b := by omega
  have hnq : w.heap.size ≠ b := by omega
  have hwp : w.heap.size ≤ w.heap.size + 1 := by omega
  obtain ⟨Q1, Z1, C1, B1⟩ := beh_facts 7 a n S b nd dp lg un w h (nd + 1) (max dp level)
  have HQ := Lib.hid Q1; have HZ := Lib.hid Z1; have HC := Lib.hid C1; have HB := Lib.hid B1
  obtain ⟨q0, q1, q2⟩ := Q1.parts
  have p1 := fun o o' => ((h.alloc o).alloc o').parts.2.1
  have pf := fun o o' i => ((h.alloc o).alloc o').free i
  have p2 := fun o o' => (((h.nodes (nd + 1)).alloc o).alloc o').parts.2.2.1
  have pg := fun o o' i => (((h.nodes (nd + 1)).alloc o).alloc o').free i
  clear Q1 Z1 C1 B1
  go_enter Tryz.func40, Tryz.ntmps40
  go_wp2_with (go_at_call 75; ((with_reducible refine (K1.out _ HB.out HC.out).mono ?_); rintro e w2 ⟨rfl, hc, hb⟩; have Z2 := HZ.out.but hb hne; have C2 := Lib.hid hc; have B2 := Lib.hid (HB.out.seq hb); obtain ⟨z0, z1, z2, z3, z4, z5, z6, z7, z8, z9⟩ := Z2.parts; have zf := Z2.free; have zl := Z2.lt; clear hb hc))
  obtain ⟨y0, y1, y2, y3, y4, y5, y6, y7, y8, y9⟩ := (Z2.set10 (.int .i64 kd) (.bool g) (.int .u64 x0) (.int .u64 x1) (.int .u64 x2) (.int .u64 x3) (.int .u64 bi) (.string ⟨#[]⟩) (.slice none 0 0) (.slice none 0 0)).parts
  exact bodyPost_ret (v := .tuple #[V10 kd g x0 x1 x2 x3 bi ⟨#[]⟩ none 0 0 none 0 0, .bool q]) (by simp [results, Tryz.results40, go_sem, y0, y1, y2, y3, y4, y5, y6, y7, y8, y9]) rfl ⟨rfl, C2.out.set10 hne.symm _ _ _ _ _ _ _ _ _ _, B2.out.stored10 hwp _ _ _ _ _ _ _ _ _ _⟩
set_option maxRecDepth 100000 in
set_option maxHeartbeats 1000000 in
/-- A tag: the item behind it is a byte string T, or whatever else, as K1 says. -/
theorem behind_tag (a n : Nat) (ki : Int) (gi : Bool) (i0 i1 i2 i3 ib : Int) (T R : ByteArray) (q lg1 un1 un2 : Bool) (kd : Int) (g : Bool) (x0 x1 x2 x3 bi : Int) (U : ByteArray) (level : Int) (S : ByteArray) (b : Nat) (nd dp nd1 dp1 : Int) (lg un : Bool) (w : World) (h : Cr w b S nd dp lg un)
    (k1 : ∀ W, Cr W b S nd dp lg un → Calls Tryz.prog 22 #[.pointer (some ⟨b, 0, none⟩), .int .i64 level] W fun e w' => e = .returned (.tuple #[V10 ki gi i0 i1 i2 i3 ib T none 0 0 none 0 0, .bool q]) ∧ Cr w' b R nd1 dp1 lg1 un1 ∧ But W.heap.size b W w')
    (k2 : ∀ W, Cr W b R nd1 dp1 lg1 un1 → Calls Tryz.prog 68 #[.pointer (some ⟨b, 0, none⟩), .int .u64 n, V10 ki gi i0 i1 i2 i3 ib T none 0 0 none 0 0] W fun e w' => e = .returned (V10 kd g x0 x1 x2 x3 bi U none 0 0 none 0 0) ∧ Cr w' b R nd1 dp1 lg1 un2 ∧ But W.heap.size b W w') :
    Calls Tryz.prog 40 #[.pointer (some ⟨b, 0, none⟩), HdV 6 a n, .int .i64 level] w fun e w' => e = .returned (.tuple #[V10 kd g x0 x1 x2 x3 bi U none 0 0 none 0 0, .bool q]) ∧ Cr w' b R nd1 dp1 lg1 un2 ∧ But w.heap.size b w w' := by
  have K1 := Lib.hid k1
  have K2 := Lib.hid k2
  have hlt := h.lt
  have hne : w.heap.size + 1 ≠ b := by omega
  have hnq : w.heap.size ≠ b := by omega
  have hwp : w.heap.size ≤ w.heap.size + 1 := by omega
  have HQ := Lib.hid ((Hb.new w 6 a n).alloc (.cells #[.int .i64 0, .bool false, .int .u64 0, .int .u64 0, .int .u64 0, .int .u64 0, .int .u64 0, .string ⟨#[]⟩, .slice none 0 0, .slice none 0 0] 33))
  have HZ := Lib.hid (Row10.new' (w.alloc (.cells #[.int .i64 6, .int .i64 a, .int .u64 n] 69)) (c := w.heap.size + 1) (by simp) (.int .i64 0) (.bool false) (.int .u64 0) (.int .u64 0) (.int .u64 0) (.int .u64 0) (.int .u64 0) (.string ⟨#[]⟩) (.slice none 0 0) (.slice none 0 0))
  have HC := Lib.hid ((h.alloc (.cells #[.int .i64 6, .int .i64 a, .int .u64 n] 69)).alloc (.cells #[.int .i64 0, .bool false, .int .u64 0, .int .u64 0, .int .u64 0, .int .u64 0, .int .u64 0, .string ⟨#[]⟩, .slice none 0 0, .slice none 0 0] 33))
  have HB := Lib.hid (But.of (B := b) (bal (bal (Below.refl _ w) (.cells #[.int .i64 6, .int .i64 a, .int .u64 n] 69)) (.cells #[.int .i64 0, .bool false, .int .u64 0, .int .u64 0, .int .u64 0, .int .u64 0, .int .u64 0, .string ⟨#[]⟩, .slice none 0 0, .slice none 0 0] 33)))
  have hbs : b < w.heap.size := hlt
  clear k1 k2 h
  go_enter Tryz.func40, Tryz.ntmps40
  go_wp2_with (first
    | (go_at_call 22; ((with_reducible refine (K1.out _ HC.out).mono ?_); rintro e w2 ⟨rfl, hc, hb⟩; have Z2 := Lib.hid ((HZ.out.but hb hne).alloc (.cells #[.int .i64 ki, .bool gi, .int .u64 i0, .int .u64 i1, .int .u64 i2, .int .u64 i3, .int .u64 ib, .string T, .slice none 0 0, .slice none 0 0] 33)); have Q2 := Lib.hid ((HQ.out.but hb hnq).alloc (.cells #[.int .i64 ki, .bool gi, .int .u64 i0, .int .u64 i1, .int .u64 i2, .int .u64 i3, .int .u64 ib, .string T, .slice none 0 0, .slice none 0 0] 33)); have C2 := Lib.hid (hc.alloc (.cells #[.int .i64 ki, .bool gi, .int .u64 i0, .int .u64 i1, .int .u64 i2, .int .u64 i3, .int .u64 ib, .string T, .slice none 0 0, .slice none 0 0] 33)); have B2 := Lib.hid ((HB.out.seq hb).made (HB.out.seq hb).size (.cells #[.int .i64 ki, .bool gi, .int .u64 i0, .int .u64 i1, .int .u64 i2, .int .u64 i3, .int .u64 ib, .string T, .slice none 0 0, .slice none 0 0] 33)); obtain ⟨q0, q1, q2⟩ := Q2.out.parts; clear hb hc))
    | (go_at_call 68; ((with_reducible refine (K2.out _ C2.out).mono ?_); rintro e w4 ⟨rfl, hc, hb⟩; have Z4 := Z2.out.but hb hne; have C4 := Lib.hid hc; have B4 := Lib.hid (B2.out.seq hb); obtain ⟨z0, z1, z2, z3, z4, z5, z6, z7, z8, z9⟩ := Z4.parts; have zf := Z4.free; have zl := Z4.lt; clear hb hc q0 q1 q2 Q2)))
  obtain ⟨y0, y1, y2, y3, y4, y5, y6, y7, y8, y9⟩ := (Z4.set10 (.int .i64 kd) (.bool g) (.int .u64 x0) (.int .u64 x1) (.int .u64 x2) (.int .u64 x3) (.int .u64 bi) (.string U) (.slice none 0 0) (.slice none 0 0)).parts
  exact bodyPost_ret (v := .tuple #[V10 kd g x0 x1 x2 x3 bi U none 0 0 none 0 0, .bool q]) (by simp [results, Tryz.results40, go_sem, y0, y1, y2, y3, y4, y5, y6, y7, y8, y9]) rfl ⟨rfl, C4.out.set10 hne.symm _ _ _ _ _ _ _ _ _ _, B4.out.stored10 hwp _ _ _ _ _ _ _ _ _ _⟩
set_option maxRecDepth 100000 in
set_option maxHeartbeats 1000000 in
/-- item: a head that is there, and what is behind it. -/
theorem item_ok (l r : List UInt8) (hl : l.length ≤ 140737488351232) (m a n : Nat) (hr : rhd l = some (m, a, n, r)) (kd : Int) (g : Bool) (x0 x1 x2 x3 bi : Int) (U R : ByteArray) (q lg2 un2 : Bool) (nd2 dp2 level : Int) (b : Nat) (nd dp : Int) (lg un : Bool) (w : World) (h : Cr w b (str l) nd dp lg un)
    (k1 : ∀ W, But w.heap.size b w W → Cr W b (str r) nd dp lg un → Calls Tryz.prog 40 #[.pointer (some ⟨b, 0, none⟩), HdV m a n, .int .i64 level] W fun e w' => e = .returned (.tuple #[V10 kd g x0 x1 x2 x3 bi U none 0 0 none 0 0, .bool q]) ∧ Cr w' b R nd2 dp2 lg2 un2 ∧ But W.heap.size b W w') :
    Calls Tryz.prog 22 #[.pointer (some ⟨b, 0, none⟩), .int .i64 level] w fun e w' => e = .returned (.tuple #[V10 kd g x0 x1 x2 x3 bi U none 0 0 none 0 0, .bool q]) ∧ Cr w' b R nd2 dp2 lg2 un2 ∧ But w.heap.size b w w' := by
  have K0 : Hid (∀ W, Cr W b (str l) nd dp lg un → Calls Tryz.prog 39 #[.pointer (some ⟨b, 0, none⟩)] W fun e w' => e = .returned (.tuple #[HdV m a n, .bool true]) ∧ Cr w' b (str r) nd dp lg un ∧ But W.heap.size b W w') := by
    intro W hW
    refine (rhead_any l hl b nd dp lg un W hW).mono fun e w' hx => ?_
    unfold HeadIs at hx
    rw [hr] at hx
    exact hx
  have K1 := Lib.hid k1
  have hlt := h.lt
  have hne : w.heap.size ≠ b := by omega
  have HZ := Lib.hid (Row10.new w (.int .i64 0) (.bool false) (.int .u64 0) (.int .u64 0) (.int .u64 0) (.int .u64 0) (.int .u64 0) (.string ⟨#[]⟩) (.slice none 0 0) (.slice none 0 0))
  have HC := Lib.hid (h.alloc (.cells #[.int .i64 0, .bool false, .int .u64 0, .int .u64 0, .int .u64 0, .int .u64 0, .int .u64 0, .string ⟨#[]⟩, .slice none 0 0, .slice none 0 0] 33))
  have HB := Lib.hid (But.of (B := b) (bal (Below.refl _ w) (.cells #[.int .i64 0, .bool false, .int .u64 0, .int .u64 0, .int .u64 0, .int .u64 0, .int .u64 0, .string ⟨#[]⟩, .slice none 0 0, .slice none 0 0] 33)))
  clear k1 h hr
  generalize str l = S at *
  generalize str r = S2 at *
  go_enter Tryz.func22, Tryz.ntmps22
  go_wp2_with (first
    | (go_at_call 39; ((with_reducible refine (K0.out _ HC.out).mono ?_); rintro e w2 ⟨rfl, hc, hb⟩; have Z2 := Lib.hid ((HZ.out.but hb hne).alloc (.cells #[.int .i64 m, .int .i64 a, .int .u64 n] 69)); have C2 := Lib.hid (hc.alloc (.cells #[.int .i64 m, .int .i64 a, .int .u64 n] 69)); have B2 := Lib.hid ((HB.out.seq hb).made (HB.out.seq hb).size (.cells #[.int .i64 m, .int .i64 a, .int .u64 n] 69)); clear hb hc))
    | (go_at_call 40; ((with_reducible refine (K1.out _ B2.out C2.out).mono ?_); rintro e w4 ⟨rfl, hc, hb⟩; have Z4 := Z2.out.but hb hne; have C4 := Lib.hid hc; have B4 := Lib.hid (B2.out.seq hb); obtain ⟨z0, z1, z2, z3, z4, z5, z6, z7, z8, z9⟩ := Z4.parts; have zf := Z4.free; have zl := Z4.lt; clear hb hc)))
  obtain ⟨y0, y1, y2, y3, y4, y5, y6, y7, y8, y9⟩ := (Z4.set10 (.int .i64 kd) (.bool g) (.int .u64 x0) (.int .u64 x1) (.int .u64 x2) (.int .u64 x3) (.int .u64 bi) (.string U) (.slice none 0 0) (.slice none 0 0)).parts
  exact bodyPost_ret (v := .tuple #[V10 kd g x0 x1 x2 x3 bi U none 0 0 none 0 0, .bool q]) (by simp [results, Tryz.results22, go_sem, y0, y1, y2, y3, y4, y5, y6, y7, y8, y9]) rfl ⟨rfl, C4.out.set10 hne.symm _ _ _ _ _ _ _ _ _ _, B4.out.stored10 (Nat.le_refl _) _ _ _ _ _ _ _ _ _ _⟩
end Go.Proofs.YtfaaagmjmljhiaaGreatDoor
end
section
namespace Go.Proofs.YtfaaagmjmljhiaaGreatDoor
open Go.RowKit Go.Shelf
set_option linter.unusedVariables false

/-- A slice of bytes lies in memory. -/
def BytesAt (W : World) (gg off : Nat) (l : List UInt8) : Prop := ∀ i b, l[i]? = some b → W.cell? ⟨gg, off + i, none⟩ = some (.int .u8 (b.toNat : Int))
theorem BytesAt.keep {W W' : World} {gg off : Nat} {l : List UInt8} (h : BytesAt W gg off l) (hb : Below W.heap.size W W') : BytesAt W' gg off l := fun i b hi => cell_keep hb (h i b hi)
theorem conv_bytes (W : World) (gg off cap : Nat) (l : List UInt8) (h : BytesAt W gg off l) (N : Nat) (hN : l.length = N) :
    (convert 24 9 (.slice (some ⟨gg, off, none⟩) N cap)).run Tryz.prog W = .ok (.string (str l)) W := by
  have h1 := run_convert_bytes_arg (P := Tryz.prog) W 24 5 (by kernel_rfl) (by kernel_rfl) gg off N cap (l.map fun b => (b.toNat : Int)) (by rw [List.length_map]; exact hN) (fun i hi => by
    have hi2 : i < l.length := by omega
    rw [h i l[i] (List.getElem?_eq_getElem hi2)]
    simp [List.getD, List.getElem?_eq_getElem hi2]) 9 (by kernel_rfl)
  have e : strOfNums (l.map fun b => (b.toNat : Int)) = str l := by
    apply str_ext
    rw [strOfNums_data, str_data, List.map_map]
    conv => rhs; rw [← List.map_id l]
    apply List.map_congr_left
    intro b _
    simp
  rw [h1, e]
theorem But.under {N B : Nat} {w W w' : World} (h : Below w.heap.size w W) (k : But N B W w') (hN : w.heap.size ≤ N) (hB : w.heap.size ≤ B) : Below w.heap.size w w' :=
  ⟨k.os.trans h.os, k.tape.trans h.tape, k.output.trans h.output, Nat.le_trans h.size k.size, fun i hi => (k.block i (by omega) (by omega)).trans (h.block i hi)⟩
theorem Cr.new' (W : World) {c : Nat} (hc : W.heap.size = c) (s : ByteArray) (nd dp : Int) (lg un : Bool) : Cr (W.alloc (.cells #[.string s, .int .i64 nd, .int .i64 dp, .bool lg, .bool un] 55)) c s nd dp lg un := by subst hc; exact heap_alloc_new W _
set_option maxRecDepth 100000 in
set_option maxHeartbeats 1000000 in
theorem dec_ok (l : List UInt8) (hl : l.length ≤ 65536) (gg off cap N : Nat) (hN : l.length = N) (kd : Int) (g : Bool) (x0 x1 x2 x3 bi : Int) (U : ByteArray) (nd dp : Int) (hnd : nd ≤ 10000) (hdp : dp ≤ 16) (w : World) (hb : BytesAt w gg off l)
    (k1 : ∀ W b, Below w.heap.size w W → w.heap.size ≤ b → Cr W b (str l) 0 0 false false → Calls Tryz.prog 22 #[.pointer (some ⟨b, 0, none⟩), .int .i64 1] W fun e w' => e = .returned (.tuple #[V10 kd g x0 x1 x2 x3 bi U none 0 0 none 0 0, .bool true]) ∧ Cr w' b ⟨#[]⟩ nd dp false false ∧ But W.heap.size b W w') :
    Calls Tryz.prog 14 #[.slice (some ⟨gg, off, none⟩) N cap] w fun e w' => e = .returned (.tuple #[V10 kd g x0 x1 x2 x3 bi U none 0 0 none 0 0, .int .i64 0]) ∧ Below w.heap.size w w' := by
  have hc := fun o => conv_bytes (w.alloc o) gg off cap l (hb.keep (bal (Below.refl _ w) o)) N hN
  have K1 := Lib.hid k1
  rw [hN] at hl
  have h65 : ¬ (65536 : Int) < (N : Int) := by omega
  have hd : ¬ (16 : Int) < dp := by omega
  have hn : ¬ (10000 : Int) < nd := by omega
  have HZ := Lib.hid ((Row10.new w (.int .i64 0) (.bool false) (.int .u64 0) (.int .u64 0) (.int .u64 0) (.int .u64 0) (.int .u64 0) (.string ⟨#[]⟩) (.slice none 0 0) (.slice none 0 0)).alloc (.cells #[.string (str l), .int .i64 0, .int .i64 0, .bool false, .bool false] 55))
  have HC := Lib.hid (Cr.new' (w.alloc (.cells #[.int .i64 0, .bool false, .int .u64 0, .int .u64 0, .int .u64 0, .int .u64 0, .int .u64 0, .string ⟨#[]⟩, .slice none 0 0, .slice none 0 0] 33)) (c := w.heap.size + 1) (by simp) (str l) 0 0 false false)
  have HB := Lib.hid (bal (bal (Below.refl _ w) (.cells #[.int .i64 0, .bool false, .int .u64 0, .int .u64 0, .int .u64 0, .int .u64 0, .int .u64 0, .string ⟨#[]⟩, .slice none 0 0, .slice none 0 0] 33)) (.cells #[.string (str l), .int .i64 0, .int .i64 0, .bool false, .bool false] 55))
  have hne : w.heap.size ≠ w.heap.size + 1 := by omega
  have hle1 : w.heap.size ≤ w.heap.size + 1 := by omega
  have ee : (⟨#[]⟩ : ByteArray).toList = [] := by decide +kernel
  clear k1 hb hnd hdp
  generalize str l = S at *
  go_enter Tryz.func14, Tryz.ntmps14
  go_wp2_with (go_at_call 22; ((with_reducible refine (K1.out _ _ HB.out hle1 HC.out).mono ?_); rintro e w2 ⟨rfl, hcr, hbb⟩; have Z2 := (HZ.out.but hbb hne).alloc (.cells #[.int .i64 kd, .bool g, .int .u64 x0, .int .u64 x1, .int .u64 x2, .int .u64 x3, .int .u64 bi, .string U, .slice none 0 0, .slice none 0 0] 33); have C2 := hcr.alloc (.cells #[.int .i64 kd, .bool g, .int .u64 x0, .int .u64 x1, .int .u64 x2, .int .u64 x3, .int .u64 bi, .string U, .slice none 0 0, .slice none 0 0] 33); have B2 := Lib.hid (bal (But.under HB.out hbb (by have := HB.out.size; omega) (by omega)) (.cells #[.int .i64 kd, .bool g, .int .u64 x0, .int .u64 x1, .int .u64 x2, .int .u64 x3, .int .u64 bi, .string U, .slice none 0 0, .slice none 0 0] 33)); obtain ⟨z0, z1, z2, z3, z4, z5, z6, z7, z8, z9⟩ := Z2.parts; have zf := Z2.free; have zl := Z2.lt; obtain ⟨c0, c1, c2, c3, c4⟩ := C2.parts; clear hbb hcr))
  obtain ⟨y0, y1, y2, y3, y4, y5, y6, y7, y8, y9⟩ := (Z2.set10 (.int .i64 kd) (.bool g) (.int .u64 x0) (.int .u64 x1) (.int .u64 x2) (.int .u64 x3) (.int .u64 bi) (.string U) (.slice none 0 0) (.slice none 0 0)).parts
  exact bodyPost_ret (v := .tuple #[V10 kd g x0 x1 x2 x3 bi U none 0 0 none 0 0, .int .i64 0]) (by simp [results, Tryz.results14, go_sem, y0, y1, y2, y3, y4, y5, y6, y7, y8, y9]) rfl ⟨rfl, vbsc10 B2.out (Nat.le_refl _) _ _ _ _ _ _ _ _ _ _⟩
set_option maxRecDepth 100000 in
set_option maxHeartbeats 1000000 in
theorem dec_unrep (l : List UInt8) (hl : l.length ≤ 65536) (gg off cap N : Nat) (hN : l.length = N) (kd : Int) (g : Bool) (x0 x1 x2 x3 bi : Int) (U : ByteArray) (nd dp : Int) (hnd : nd ≤ 10000) (hdp : dp ≤ 16) (w : World) (hb : BytesAt w gg off l)
    (k1 : ∀ W b, Below w.heap.size w W → w.heap.size ≤ b → Cr W b (str l) 0 0 false false → Calls Tryz.prog 22 #[.pointer (some ⟨b, 0, none⟩), .int .i64 1] W fun e w' => e = .returned (.tuple #[V10 kd g x0 x1 x2 x3 bi U none 0 0 none 0 0, .bool true]) ∧ Cr w' b ⟨#[]⟩ nd dp false true ∧ But W.heap.size b W w') :
    Calls Tryz.prog 14 #[.slice (some ⟨gg, off, none⟩) N cap] w fun e w' => e = .returned (.tuple #[V10 0 false 0 0 0 0 0 ⟨#[]⟩ none 0 0 none 0 0, .int .i64 5]) ∧ Below w.heap.size w w' := by
  have hc := fun o => conv_bytes (w.alloc o) gg off cap l (hb.keep (bal (Below.refl _ w) o)) N hN
  have K1 := Lib.hid k1
  rw [hN] at hl
  have h65 : ¬ (65536 : Int) < (N : Int) := by omega
  have hd : ¬ (16 : Int) < dp := by omega
  have hn : ¬ (10000 : Int) < nd := by omega
  have HZ := Lib.hid ((Row10.new w (.int .i64 0) (.bool false) (.int .u64 0) (.int .u64 0) (.int .u64 0) (.int .u64 0) (.int .u64 0) (.string ⟨#[]⟩) (.slice none 0 0) (.slice none 0 0)).alloc (.cells #[.string (str l), .int .i64 0, .int .i64 0, .bool false, .bool false] 55))
  have HC := Lib.hid (Cr.new' (w.alloc (.cells #[.int .i64 0, .bool false, .int .u64 0, .int .u64 0, .int .u64 0, .int .u64 0, .int .u64 0, .string ⟨#[]⟩, .slice none 0 0, .slice none 0 0] 33)) (c := w.heap.size + 1) (by simp) (str l) 0 0 false false)
  have HB := Lib.hid (bal (bal (Below.refl _ w) (.cells #[.int .i64 0, .bool false, .int .u64 0, .int .u64 0, .int .u64 0, .int .u64 0, .int .u64 0, .string ⟨#[]⟩, .slice none 0 0, .slice none 0 0] 33)) (.cells #[.string (str l), .int .i64 0, .int .i64 0, .bool false, .bool false] 55))
  have hne : w.heap.size ≠ w.heap.size + 1 := by omega
  have hle1 : w.heap.size ≤ w.heap.size + 1 := by omega
  have ee : (⟨#[]⟩ : ByteArray).toList = [] := by decide +kernel
  clear k1 hb hnd hdp
  generalize str l = S at *
  go_enter Tryz.func14, Tryz.ntmps14
  go_wp2_with (go_at_call 22; ((with_reducible refine (K1.out _ _ HB.out hle1 HC.out).mono ?_); rintro e w2 ⟨rfl, hcr, hbb⟩; have Z2 := (HZ.out.but hbb hne).alloc (.cells #[.int .i64 kd, .bool g, .int .u64 x0, .int .u64 x1, .int .u64 x2, .int .u64 x3, .int .u64 bi, .string U, .slice none 0 0, .slice none 0 0] 33); have C2 := hcr.alloc (.cells #[.int .i64 kd, .bool g, .int .u64 x0, .int .u64 x1, .int .u64 x2, .int .u64 x3, .int .u64 bi, .string U, .slice none 0 0, .slice none 0 0] 33); have B2 := Lib.hid (bal (But.under HB.out hbb (by have := HB.out.size; omega) (by omega)) (.cells #[.int .i64 kd, .bool g, .int .u64 x0, .int .u64 x1, .int .u64 x2, .int .u64 x3, .int .u64 bi, .string U, .slice none 0 0, .slice none 0 0] 33)); obtain ⟨z0, z1, z2, z3, z4, z5, z6, z7, z8, z9⟩ := Z2.parts; have zf := Z2.free; have zl := Z2.lt; obtain ⟨c0, c1, c2, c3, c4⟩ := C2.parts; clear hbb hcr))
  obtain ⟨y0, y1, y2, y3, y4, y5, y6, y7, y8, y9⟩ := (Z2.set10 (.int .i64 0) (.bool false) (.int .u64 0) (.int .u64 0) (.int .u64 0) (.int .u64 0) (.int .u64 0) (.string ⟨#[]⟩) (.slice none 0 0) (.slice none 0 0)).parts
  exact bodyPost_ret (v := .tuple #[V10 0 false 0 0 0 0 0 ⟨#[]⟩ none 0 0 none 0 0, .int .i64 5]) (by simp [results, Tryz.results14, go_sem, y0, y1, y2, y3, y4, y5, y6, y7, y8, y9]) rfl ⟨rfl, vbsc10 B2.out (Nat.le_refl _) _ _ _ _ _ _ _ _ _ _⟩
end Go.Proofs.YtfaaagmjmljhiaaGreatDoor
end
section
namespace Go.Proofs.YtfaaagmjmljhiaaGreatDoor
open Go.RowKit Go.Shelf
open Go.Sort (grow)
set_option linter.unusedVariables false

set_option maxRecDepth 100000 in
theorem text_told (S T R : ByteArray) (m a n : Nat) (ha : a ≠ 31) (q : Bool) (hT : T.size ≤ 140737488351232) (b : Nat) (nd dp : Int) (lg un : Bool) (w : World) (h : Cr w b S nd dp lg un)
    (k1 : ∀ W, Cr W b S nd dp lg un → Calls Tryz.prog 108 #[.pointer (some ⟨b, 0, none⟩), HdV m a n] W fun e w' => e = .returned (.tuple #[.string T, .bool q]) ∧ Cr w' b R nd dp lg un ∧ But W.heap.size b W w') :
    Calls Tryz.prog 72 #[.pointer (some ⟨b, 0, none⟩), HdV m a n] w fun e w' => e = .returned (.tuple #[.string T, .bool q]) ∧ Cr w' b R nd dp (lg || decide (4096 < (T.size : Int))) un ∧ But w.heap.size b w w' := by
  have k0 := fun W => isopen_any (m : Int) (a : Int) (n : Int) W
  have e : ((a : Int) == 31) = false := by rw [beq_eq_false_iff_ne]; omega
  rw [e] at k0
  have K0 := Lib.hid k0
  have K1 := Lib.hid k1
  have K2 := Lib.hid (fun (W : World) (h : Cr W b R nd dp lg un) => count_any R (T.size : Int) 4096 b nd dp lg un W h)
  have hlt := h.lt
  have n1 : w.heap.size ≠ b := by omega
  have n2 : w.heap.size + 1 ≠ b := by omega
  have P0 := Lib.hid ((One.new w (.pointer (some ⟨b, 0, none⟩)) 67).alloc (.cells #[.int .i64 m, .int .i64 a, .int .u64 n] 69))
  have Q0 := Lib.hid (Hb.new' (w.alloc (.cells #[.pointer (some ⟨b, 0, none⟩)] 67)) (c := w.heap.size + 1) (by simp) m a n)
  have C0 := Lib.hid ((h.alloc (.cells #[.pointer (some ⟨b, 0, none⟩)] 67)).alloc (.cells #[.int .i64 m, .int .i64 a, .int .u64 n] 69))
  have B0 := Lib.hid (bal (bal (Below.refl _ w) (.cells #[.pointer (some ⟨b, 0, none⟩)] 67)) (.cells #[.int .i64 m, .int .i64 a, .int .u64 n] 69))
  clear h k0 k1 e ha
  go_enter Tryz.func72, Tryz.ntmps72
  go_wp2_with (first
    | (go_at_call 81; ((with_reducible refine (K0.out _).mono ?_); rintro e w1 ⟨rfl, hb⟩; have P1 := Lib.hid (One.keep hb P0.out); have Q1 := Lib.hid (Hb.keep hb Q0.out); have C1 := Lib.hid (C0.out.keep hb); have B1 := Lib.hid (But.of (B := b) (btr B0.out hb)); have pc := P1.out.cell; obtain ⟨q0, q1, q2⟩ := Q1.out.parts; clear hb P0 Q0 C0 B0))
    | (go_at_call 108; ((with_reducible refine (K1.out _ C1.out).mono ?_); rintro e w2 ⟨rfl, hc, hb⟩; have P2 := Lib.hid (P1.out.but hb n1); have C2 := Lib.hid hc; have B2 := Lib.hid (B1.out.seq hb); clear hb hc pc q0 q1 q2 P1 Q1 C1 B1; have pc := P2.out.cell))
    | (go_at_call 109; ((with_reducible refine (K2.out _ C2.out).mono ?_); rintro e w3 ⟨rfl, hc, hb⟩; have C3 := Lib.hid hc; have B3 := Lib.hid (B2.out.seq hb); clear hb hc)))
  go_ret2
  exact ⟨rfl, C3.out, B3.out⟩
end Go.Proofs.YtfaaagmjmljhiaaGreatDoor
end
section
namespace Go.Proofs.YtfaaagmjmljhiaaGreatDoor
open Go.RowKit Go.Shelf
set_option linter.unusedVariables false

theorem rhd_hby (m a n : Nat) (r : List UInt8) (hm : m < 8) (hmy : hmay m a = true) (h0 : a < 24 → n = a) (h1 : ¬ a < 24 → n < 256 ^ hsz a) : rhd (hby m a n ++ r) = some (m, a, n, r) := by
  have ha := hmay_info hmy
  have e : (UInt8.ofNat (m * 32 + a)).toNat = m * 32 + a := by rw [UInt8.toNat_ofNat']; omega
  have d1 : (m * 32 + a) / 32 = m := by omega
  have d2 : (m * 32 + a) % 32 = a := by omega
  show rhd (UInt8.ofNat (m * 32 + a) :: (be n (hsz a) ++ r)) = _
  have er : ∀ (c : UInt8) (t : List UInt8), rhd (c :: t) = if hmay (c.toNat / 32) (c.toNat % 32) = true ∧ hsz (c.toNat % 32) ≤ t.length then some (c.toNat / 32, c.toNat % 32, (if c.toNat % 32 < 24 then c.toNat % 32 else nb (t.take (hsz (c.toNat % 32)))), t.drop (hsz (c.toNat % 32))) else none := fun _ _ => rfl
  rw [er, e, d1, d2, if_pos ⟨hmy, by rw [List.length_append, be_len]; omega⟩]
  have e2 : (be n (hsz a) ++ r).take (hsz a) = be n (hsz a) := by
    rw [List.take_append_of_le_length (by rw [be_len]; exact Nat.le_refl _), List.take_of_length_le (by rw [be_len]; exact Nat.le_refl _)]
  have e3 : (be n (hsz a) ++ r).drop (hsz a) = r := by
    have := List.drop_left' (l₁ := be n (hsz a)) (l₂ := r) (be_len n (hsz a))
    exact this
  rw [e2, e3]
  by_cases h24 : a < 24
  · rw [if_pos h24, h0 h24]
  · rw [if_neg h24, nb_be, Nat.mod_eq_of_lt (h1 h24)]
theorem hmay_low {m a : Nat} (h : a < 28) : hmay m a = true := by
  unfold hmay
  rw [if_neg (by omega)]
  exact decide_eq_true (by omega)
theorem str_nil : str [] = ⟨#[]⟩ := rfl
/-- A number's head alone. -/
theorem dec_uint (a n : Nat) (ha : a < 28) (hn : n < 18446744073709551616) (h0 : a < 24 → n = a) (h1 : ¬ a < 24 → n < 256 ^ hsz a) (gg off cap N : Nat) (hN : (hby 0 a n).length = N) (w : World) (hb : BytesAt w gg off (hby 0 a n)) :
    Calls Tryz.prog 14 #[.slice (some ⟨gg, off, none⟩) N cap] w fun e w' => e = .returned (.tuple #[V10 3 false n 0 0 0 0 ⟨#[]⟩ none 0 0 none 0 0, .int .i64 0]) ∧ Below w.heap.size w w' := by
  have hr := rhd_hby 0 a n [] (by decide) (hmay_low ha) h0 h1
  rw [List.append_nil] at hr
  have hl : (hby 0 a n).length ≤ 65536 := by
    rw [hby_len]
    have : hsz a ≤ 8 := by
      by_cases h24 : a < 24
      · rw [hsz_low h24]; omega
      · rcases (show a = 24 ∨ a = 25 ∨ a = 26 ∨ a = 27 by omega) with rfl | rfl | rfl | rfl <;> decide
    omega
  refine dec_ok _ hl gg off cap N hN 3 false n 0 0 0 0 ⟨#[]⟩ (0 + 1) (max 0 1) (by decide) (by decide) w hb fun W b hW _ hC => ?_
  exact item_ok _ [] (by omega) 0 a n hr 3 false n 0 0 0 0 ⟨#[]⟩ ⟨#[]⟩ true false false _ _ 1 b 0 0 false false W hC fun W2 _ hC2 => behind_uint a n hn 1 _ b 0 0 (by decide) (by decide) false false W2 hC2
theorem dec_neg (a n : Nat) (ha : a < 28) (hn : n < 18446744073709551616) (h0 : a < 24 → n = a) (h1 : ¬ a < 24 → n < 256 ^ hsz a) (gg off cap N : Nat) (hN : (hby 1 a n).length = N) (w : World) (hb : BytesAt w gg off (hby 1 a n)) :
    Calls Tryz.prog 14 #[.slice (some ⟨gg, off, none⟩) N cap] w fun e w' => e = .returned (.tuple #[V10 3 true (lb 0 (n + 1)) (lb 1 (n + 1)) (lb 2 (n + 1)) (lb 3 (n + 1)) 0 ⟨#[]⟩ none 0 0 none 0 0, .int .i64 0]) ∧ Below w.heap.size w w' := by
  have hr := rhd_hby 1 a n [] (by decide) (hmay_low ha) h0 h1
  rw [List.append_nil] at hr
  have hl : (hby 1 a n).length ≤ 65536 := by
    rw [hby_len]
    have : hsz a ≤ 8 := by
      by_cases h24 : a < 24
      · rw [hsz_low h24]; omega
      · rcases (show a = 24 ∨ a = 25 ∨ a = 26 ∨ a = 27 by omega) with rfl | rfl | rfl | rfl <;> decide
    omega
  refine dec_ok _ hl gg off cap N hN 3 true _ _ _ _ 0 ⟨#[]⟩ (0 + 1) (max 0 1) (by decide) (by decide) w hb fun W b hW _ hC => ?_
  exact item_ok _ [] (by omega) 1 a n hr 3 true _ _ _ _ 0 ⟨#[]⟩ ⟨#[]⟩ true false false _ _ 1 b 0 0 false false W hC fun W2 _ hC2 => behind_neg a n hn 1 _ b 0 0 (by decide) (by decide) false false W2 hC2
/-- natOf of a text of at most 32 bytes behind its noughts. -/
theorem nb_nz (l : List UInt8) : nb (nz l) = nb l := by
  induction l with
  | nil => rfl
  | cons c l ih =>
    unfold nz at *
    by_cases h : c = 0
    · subst h
      rw [List.dropWhile_cons_of_pos (by decide), ih, nb_cons]
      simp
    · rw [List.dropWhile_cons_of_neg (by simpa using h)]
theorem natof_any (l : List UInt8) (hl : (nz l).length ≤ 32) (w : World) :
    Calls Tryz.prog 106 #[.string (str l)] w fun e w' => e = .returned (.tuple #[N4 (nb l), .bool true]) ∧ Below w.heap.size w w' := by
  rw [← nb_nz l]
  exact natof_ok (str l) (nz l) hl w (fun W => trim_zeros l W)
/-- A tag 2 or 3 ahead of a byte string of fewer than 24 bytes. -/
theorem dec_big (neg : Bool) (t : List UInt8) (ht : t.length < 24) (gg off cap N : Nat) (hN : (hby 6 (if neg then 3 else 2) (if neg then 3 else 2) ++ (hby 2 t.length t.length ++ t)).length = N) (w : World) (hb : BytesAt w gg off (hby 6 (if neg then 3 else 2) (if neg then 3 else 2) ++ (hby 2 t.length t.length ++ t))) :
    Calls Tryz.prog 14 #[.slice (some ⟨gg, off, none⟩) N cap] w fun e w' => e = .returned (.tuple #[V10 3 neg (lb 0 (if neg then nb t + 1 else nb t)) (lb 1 (if neg then nb t + 1 else nb t)) (lb 2 (if neg then nb t + 1 else nb t)) (lb 3 (if neg then nb t + 1 else nb t)) 0 ⟨#[]⟩ none 0 0 none 0 0, .int .i64 0]) ∧ Below w.heap.size w w' := by
  have hr2 := rhd_hby 2 t.length t.length t (by decide) (hmay_low (by omega)) (fun _ => rfl) (fun h => absurd ht h)
  have hT : (str t).size = t.length := str_size t
  have hx : nb t + 1 < 2 ^ 256 := by
    have h1 := nb_lt t
    have h2 : 256 ^ t.length ≤ 256 ^ 24 := Nat.pow_le_pow_right (by decide) (by omega)
    have h3 : (256 : Nat) ^ 24 < 2 ^ 256 := by decide
    omega
  -- the byte string
  have KI : ∀ W b, Cr W b (str (hby 2 t.length t.length ++ t)) 0 0 false false → Calls Tryz.prog 22 #[.pointer (some ⟨b, 0, none⟩), .int .i64 1] W fun e w' => e = .returned (.tuple #[V10 6 false 0 0 0 0 0 (str t) none 0 0 none 0 0, .bool true]) ∧ Cr w' b ⟨#[]⟩ (0 + 1) (max 0 1) false false ∧ But W.heap.size b W w' := by
    intro W b hC
    refine item_ok _ t (by rw [List.length_append, hby_len, hsz_low ht]; omega) 2 t.length t.length hr2 6 false 0 0 0 0 0 (str t) ⟨#[]⟩ true false false (0 + 1) (max 0 1) 1 b 0 0 false false W hC fun W2 _ hC2 => ?_
    refine behind_bytes t.length t.length (str t) ⟨#[]⟩ true false 1 _ b 0 0 (by decide) (by decide) false false W2 hC2 fun W3 hC3 => ?_
    have hk := text_told (str t) (str t) ⟨#[]⟩ 2 t.length t.length (by omega) true (by rw [hT]; omega) b (0 + 1) (max 0 1) false false W3 hC3 fun W4 hC4 => by
      obtain ⟨v, hv⟩ : ∃ v, uval (str t).data.toList = v := ⟨_, rfl⟩
      have hck := chunk_ok (str t) (str t) ⟨#[]⟩ 2 t.length t.length (by rw [hT]; exact Nat.le_refl _) (by rw [hT]; omega) (by
        apply str_ext
        rw [← hT]
        simp) (by rw [str_drop]; simp [str]) v b (0 + 1) (max 0 1) false false W4 hC4 (fun W5 => by
          have := valid_any (str t) (by rw [hT]; omega) W5
          rw [hv] at this
          exact this)
      exact hck
    have e : (false || decide (4096 < ((str t).size : Int))) = false := by
      rw [Bool.false_or, decide_eq_false_iff_not, hT]; omega
    rw [e] at hk
    exact hk
  cases neg with
  | false =>
    have hr := rhd_hby 6 2 2 (hby 2 t.length t.length ++ t) (by decide) (hmay_low (by decide)) (fun _ => rfl) (fun h => absurd (by decide : (2 : Nat) < 24) h)
    refine dec_ok _ (by rw [List.length_append, List.length_append, hby_len, hby_len, hsz_low ht, hsz_low (by decide)]; omega) gg off cap N hN 3 false _ _ _ _ 0 ⟨#[]⟩ (0 + 1) (max 0 1) (by decide) (by decide) w hb fun W b hW _ hC => ?_
    refine item_ok _ _ (by rw [List.length_append, List.length_append, hby_len, hby_len, hsz_low ht]; simp [hsz]; omega) 6 2 2 hr 3 false _ _ _ _ 0 ⟨#[]⟩ ⟨#[]⟩ true false false _ _ 1 b 0 0 false false W hC fun W2 _ hC2 => ?_
    exact behind_tag 2 2 6 false 0 0 0 0 0 (str t) ⟨#[]⟩ true false false false 3 false _ _ _ _ 0 ⟨#[]⟩ 1 _ b 0 0 (0 + 1) (max 0 1) false false W2 hC2 (fun W3 h3 => KI W3 b h3) (fun W3 h3 => tagged_pos ⟨#[]⟩ (str t) (nb t) b _ _ false false W3 h3 (fun W4 => natof_any t (Nat.le_trans (nz_len t) (by omega)) W4))
  | true =>
    have hr := rhd_hby 6 3 3 (hby 2 t.length t.length ++ t) (by decide) (hmay_low (by decide)) (fun _ => rfl) (fun h => absurd (by decide : (3 : Nat) < 24) h)
    refine dec_ok _ (by rw [List.length_append, List.length_append, hby_len, hby_len, hsz_low ht, hsz_low (by decide)]; omega) gg off cap N hN 3 true _ _ _ _ 0 ⟨#[]⟩ (0 + 1) (max 0 1) (by decide) (by decide) w hb fun W b hW _ hC => ?_
    refine item_ok _ _ (by rw [List.length_append, List.length_append, hby_len, hby_len, hsz_low ht]; simp [hsz]; omega) 6 3 3 hr 3 true _ _ _ _ 0 ⟨#[]⟩ ⟨#[]⟩ true false false _ _ 1 b 0 0 false false W hC fun W2 _ hC2 => ?_
    exact behind_tag 3 3 6 false 0 0 0 0 0 (str t) ⟨#[]⟩ true false false false 3 true _ _ _ _ 0 ⟨#[]⟩ 1 _ b 0 0 (0 + 1) (max 0 1) false false W2 hC2 (fun W3 h3 => KI W3 b h3) (fun W3 h3 => tagged_neg ⟨#[]⟩ (str t) (nb t) hx b _ _ false false W3 h3 (fun W4 => natof_any t (Nat.le_trans (nz_len t) (by omega)) W4))
end Go.Proofs.YtfaaagmjmljhiaaGreatDoor
end
section
namespace Go.Proofs.YtfaaagmjmljhiaaGreatDoor
open Go.RowKit Go.Shelf
attribute [local go_sem ↓] eql_nat neq_nat eql_int5 neq_int5

theorem bytes_new (W : World) (l : List UInt8) (c : Array Value) (hc : c.toList = U8s l) : BytesAt (W.alloc (.cells c 5)) W.heap.size 0 l := by
  intro i b hi
  rw [Nat.zero_add, cell_of_row _ W.heap.size i c _ _ (heap_alloc_new W _)]
  have : c.toList[i]? = some (.int .u8 (b.toNat : Int)) := by rw [hc]; unfold U8s; rw [List.getElem?_map, hi]; rfl
  simpa using this
theorem bytes_at (W : World) (l : List UInt8) (c : Array Value) (g : Nat) (hg : W.heap.size = g) (hc : c.toList = U8s l) : BytesAt (W.alloc (.cells c 5)) g 0 l := by subst hg; exact bytes_new W l c hc
theorem bo_bytes {W : World} {base gg N cap : Nat} {l : List UInt8} (h : Bo W base (.slice (some ⟨gg, 0, none⟩) N cap) l) : BytesAt W gg 0 l := by
  intro i b hi
  have h2 := World.ownsRow.cells h (g := gg) rfl i (.int .u8 (b.toNat : Int)) (by unfold U8s; rw [List.getElem?_map, hi]; rfl)
  rwa [addr_add] at h2
set_option maxRecDepth 100000 in
set_option maxHeartbeats 4000000 in
theorem told8_core (w : World)
    (k1 : ∀ W g, Below w.heap.size w W → BytesAt W g 0 [249, 60, 0] → Calls Tryz.prog 14 #[.slice (some ⟨g, 0, none⟩) 3 3] W fun e w' => e = .returned (.tuple #[V10 3 false 1 0 0 0 0 ⟨#[]⟩ none 0 0 none 0 0, .int .i64 0]) ∧ Below W.heap.size W w')
    (k2 : ∀ W g, Below w.heap.size w W → BytesAt W g 0 [194, 65, 5] → Calls Tryz.prog 14 #[.slice (some ⟨g, 0, none⟩) 3 3] W fun e w' => e = .returned (.tuple #[V10 3 false 5 0 0 0 0 ⟨#[]⟩ none 0 0 none 0 0, .int .i64 0]) ∧ Below W.heap.size W w')
    (k3 : ∀ W g, Below w.heap.size w W → BytesAt W g 0 [247] → Calls Tryz.prog 14 #[.slice (some ⟨g, 0, none⟩) 1 1] W fun e w' => e = .returned (.tuple #[V10 0 false 0 0 0 0 0 ⟨#[]⟩ none 0 0 none 0 0, .int .i64 5]) ∧ Below W.heap.size W w')
    (k4 : ∀ W, Below w.heap.size w W → Calls Tryz.prog 10 #[V10 3 false 0 1 0 0 0 ⟨#[]⟩ none 0 0 none 0 0] W fun e w' => ∃ gg cap, e = .returned (.tuple #[.slice (some ⟨gg, 0, none⟩) 11 cap, .int .i64 0]) ∧ BytesAt w' gg 0 [194, 73, 1, 0, 0, 0, 0, 0, 0, 0, 0] ∧ Below W.heap.size W w') :
    Calls Tryz.prog 7 #[] w fun e w' => e = .returned (.bool true) ∧ Below w.heap.size w w' := by
  have K1 := Lib.hid k1; have K2 := Lib.hid k2; have K3 := Lib.hid k3; have K4 := Lib.hid k4
  clear k1 k2 k3 k4
  have BN := Lib.hid bytes_at
  have hst : (str [194, 73, 1, 0, 0, 0, 0, 0, 0, 0, 0]) = ⟨#[194, 73, 1, 0, 0, 0, 0, 0, 0, 0, 0]⟩ := rfl
  go_enter Tryz.func7, Tryz.ntmps7
  go_wp2_with fail
  ((with_reducible refine (K1.out _ w.heap.size (bal (Below.refl _ _) _) (BN.out _ [249, 60, 0] #[.int .u8 249, .int .u8 60, .int .u8 0] _ rfl rfl)).mono ?_); rintro e w0 ⟨rfl, hb0⟩)
  have B0 := Lib.hid (bal (btr (bal (Below.refl _ _) _) hb0) (.cells #[.int .i64 3, .bool false, .int .u64 1, .int .u64 0, .int .u64 0, .int .u64 0, .int .u64 0, .string ⟨#[]⟩, .slice none 0 0, .slice none 0 0] 33))
  have R0 := Lib.hid (Row10.new w0 (.int .i64 3) (.bool false) (.int .u64 1) (.int .u64 0) (.int .u64 0) (.int .u64 0) (.int .u64 0) (.string ⟨#[]⟩) (.slice none 0 0) (.slice none 0 0))
  clear hb0
  go_wp2_with fail
  ((with_reducible refine (K2.out _ (w0.heap.size + 1) (bal B0.out _) (BN.out _ [194, 65, 5] #[.int .u8 194, .int .u8 65, .int .u8 5] _ (World.size_alloc _ _) rfl)).mono ?_); rintro e w1 ⟨rfl, hb1⟩)
  have B1 := Lib.hid (bal (btr (bal B0.out _) hb1) (.cells #[.int .i64 3, .bool false, .int .u64 5, .int .u64 0, .int .u64 0, .int .u64 0, .int .u64 0, .string ⟨#[]⟩, .slice none 0 0, .slice none 0 0] 33))
  have R1 := Lib.hid ((Row10.keep hb1 (R0.out.alloc _)).alloc (.cells #[.int .i64 3, .bool false, .int .u64 5, .int .u64 0, .int .u64 0, .int .u64 0, .int .u64 0, .string ⟨#[]⟩, .slice none 0 0, .slice none 0 0] 33))
  have S1 := Lib.hid (Row10.new w1 (.int .i64 3) (.bool false) (.int .u64 5) (.int .u64 0) (.int .u64 0) (.int .u64 0) (.int .u64 0) (.string ⟨#[]⟩) (.slice none 0 0) (.slice none 0 0))
  clear hb1 B0 R0
  go_wp2_with fail
  ((with_reducible refine (K3.out _ (w1.heap.size + 1) (bal B1.out _) (BN.out _ [247] #[.int .u8 247] _ (World.size_alloc _ _) rfl)).mono ?_); rintro e w2 ⟨rfl, hb2⟩)
  have B2 := Lib.hid (bal (btr (bal B1.out _) hb2) (.cells #[.int .i64 0, .bool false, .int .u64 0, .int .u64 0, .int .u64 0, .int .u64 0, .int .u64 0, .string ⟨#[]⟩, .slice none 0 0, .slice none 0 0] 33))
  have R2 := Lib.hid ((Row10.keep hb2 (R1.out.alloc _)).alloc (.cells #[.int .i64 0, .bool false, .int .u64 0, .int .u64 0, .int .u64 0, .int .u64 0, .int .u64 0, .string ⟨#[]⟩, .slice none 0 0, .slice none 0 0] 33))
  have S2 := Lib.hid ((Row10.keep hb2 (S1.out.alloc _)).alloc (.cells #[.int .i64 0, .bool false, .int .u64 0, .int .u64 0, .int .u64 0, .int .u64 0, .int .u64 0, .string ⟨#[]⟩, .slice none 0 0, .slice none 0 0] 33))
  clear hb2 B1 R1 S1
  go_wp2_with fail
  ((with_reducible refine (K4.out _ B2.out).mono ?_); rintro e w3 ⟨gg, cap, rfl, hby, hb3⟩)
  have B3 := Lib.hid (btr B2.out hb3)
  have R3 := Row10.keep hb3 R2.out
  have S3 := Row10.keep hb3 S2.out
  have hcv := conv_bytes w3 gg 0 cap _ hby 11 rfl
  rw [hst] at hcv
  clear hb3 B2 R2 S2 hby
  obtain ⟨p0, p1, p2, p3, p4, p5, p6, p7, p8, p9⟩ := R3.parts
  obtain ⟨s0, s1, s2, s3, s4, s5, s6, s7, s8, s9⟩ := S3.parts
  go_wp2
  go_ret
  exact ⟨rfl, B3.out⟩
theorem tb_but {N B : Nat} {w w' : World} (h : Tb w) (k : But N B w w') (hN : w.heap.size ≤ N) (hB : w.heap.size ≤ B) : Tb w' := tb_on h (But.under (Below.refl _ _) k hN hB)
/-- A float's head alone: u is its word in 64 bits, the rest its value. -/
theorem dec_float (a n u : Nat) (ha : (a = 25 ∧ n < 65536) ∨ (a = 26 ∧ n < 4294967296) ∨ (a = 27 ∧ n < 18446744073709551616 ∧ u = n)) (kd : Int) (g : Bool) (x0 x1 x2 x3 bi : Int) (gg off cap N : Nat) (hN : (hby 7 a n).length = N) (w : World) (hb : BytesAt w gg off (hby 7 a n))
    (k0 : ∀ W, (a = 25 → Calls Tryz.prog 89 #[.int .u16 n] W fun e w' => e = .returned (.int .u64 u) ∧ Below W.heap.size W w') ∧ (a = 26 → Calls Tryz.prog 92 #[.int .u32 n] W fun e w' => e = .returned (.int .u64 u) ∧ Below W.heap.size W w'))
    (k2 : ∀ W, Below w.heap.size w W → Calls Tryz.prog 119 #[.int .u64 u] W fun e w' => e = .returned (V10 kd g x0 x1 x2 x3 bi ⟨#[]⟩ none 0 0 none 0 0) ∧ Below W.heap.size W w') :
    Calls Tryz.prog 14 #[.slice (some ⟨gg, off, none⟩) N cap] w fun e w' => e = .returned (.tuple #[V10 kd g x0 x1 x2 x3 bi ⟨#[]⟩ none 0 0 none 0 0, .int .i64 0]) ∧ Below w.heap.size w w' := by
  have hr := rhd_hby 7 a n [] (by decide) (hmay_low (by omega)) (by omega) (by
    intro _
    rcases ha with ⟨rfl, h⟩ | ⟨rfl, h⟩ | ⟨rfl, h, _⟩ <;> exact h)
  rw [List.append_nil] at hr
  have hl : (hby 7 a n).length ≤ 65536 := by
    rw [hby_len]
    rcases ha with ⟨rfl, h⟩ | ⟨rfl, h⟩ | ⟨rfl, h, _⟩ <;> decide
  refine dec_ok _ hl gg off cap N hN kd g x0 x1 x2 x3 bi ⟨#[]⟩ (0 + 1) (max 0 1) (by decide) (by decide) w hb fun W b hW hbw hC => ?_
  refine item_ok _ [] (by omega) 7 a n hr kd g x0 x1 x2 x3 bi ⟨#[]⟩ ⟨#[]⟩ true false false _ _ 1 b 0 0 false false W hC fun W2 hB2 hC2 => ?_
  have hW2 : Below w.heap.size w W2 := But.under hW hB2 hW.size hbw
  refine behind_simple a n kd g x0 x1 x2 x3 bi true false 1 _ b 0 0 (by decide) (by decide) false false W2 hC2 fun W3 hB3 hC3 => ?_
  have hW3 : Below w.heap.size w W3 := But.under hW2 hB3 hW2.size hbw
  have k2' := fun W4 (h : Below W3.heap.size W3 W4) => k2 W4 (btr hW3 h)
  rcases ha with ⟨rfl, h⟩ | ⟨rfl, h⟩ | ⟨rfl, h, rfl⟩
  · exact simple_half 7 n u h kd g x0 x1 x2 x3 bi _ b _ _ false false W3 hC3 (fun W4 => (k0 W4).1 rfl) k2'
  · exact simple_single 7 n u h kd g x0 x1 x2 x3 bi _ b _ _ false false W3 hC3 (fun W4 => (k0 W4).2 rfl) k2'
  · exact simple_double 7 u kd g x0 x1 x2 x3 bi _ b _ _ false false W3 hC3 k2'
theorem below_same {w w' : World} (h : w' = w) : Below w.heap.size w w' := by subst h; exact Below.refl _ _
theorem hlf_one : hlf 15360 = 4607182418800017408 := by decide +kernel
theorem big_bytes : intB false 18446744073709551616 = [194, 73, 1, 0, 0, 0, 0, 0, 0, 0, 0] := by decide +kernel
theorem leaf3_may (x : Nat) : mayN (leafT 3 x) = 0 := by
  refine leafT_may 3 x true rfl ?_
  have : outB (leafT 3 x).o 0 = true := by
    show eqO 3 false (lb 0 x) (lb 1 x) (lb 2 x) (lb 3 x) 0 ⟨#[]⟩ ((0 : Nat) : Int) ((0 : Nat) : Int) 3 false (lb 0 x) (lb 1 x) (lb 2 x) (lb 3 x) 0 ⟨#[]⟩ ((0 : Nat) : Int) ((0 : Nat) : Int) = true
    exact eqO_same _ _ _ _ _ _ _ _ _ _
  unfold ownB
  rw [this]
  show (true && okI false x) = true
  simp [okI, eq5]
set_option maxRecDepth 100000 in
/-- told, wherever the table lies. -/
theorem told8_true (w : World) (hT : Tb w) : Calls Tryz.prog 7 #[] w fun e w' => e = .returned (.bool true) ∧ Below w.heap.size w w' := by
  refine told8_core w ?_ ?_ ?_ ?_
  · intro W g hW hq
    have e : hby 7 25 15360 = [249, 60, 0] := by decide
    refine dec_float 25 15360 4607182418800017408 (Or.inl ⟨rfl, by decide⟩) 3 false 1 0 0 0 0 g 0 3 3 (by decide) W (e ▸ hq) (fun W2 => ⟨fun _ => ?_, fun h => absurd h (by decide)⟩) (fun W2 h2 => ?_)
    · have h := half_any 15360 (by decide) W2
      rw [hlf_one] at h
      exact h.mono fun e w' hx => ⟨hx.1, below_same hx.2⟩
    · refine number_yes 4607182418800017408 false 1 0 0 0 W2 fun W' hb' => ?_
      have := whole_any 4607182418800017408 (by omega) W' (tb_on (tb_on (tb_on hT hW) h2) hb')
      rw [wend_one] at this
      exact this
  · intro W g hW hq
    exact dec_big false [5] (by decide) g 0 3 3 (by decide) W hq
  · intro W g hW hq
    have hr : rhd [247] = some (7, 23, 23, []) := by decide +kernel
    refine dec_unrep [247] (by decide) g 0 1 1 rfl 1 false 0 0 0 0 0 ⟨#[]⟩ (0 + 1) (max 0 1) (by decide) (by decide) W hq fun W2 b hW2 hbw hC => ?_
    refine item_ok [247] [] (by decide) 7 23 23 hr 1 false 0 0 0 0 0 ⟨#[]⟩ ⟨#[]⟩ true false true _ _ 1 b 0 0 false false W2 hC fun W3 hB3 hC3 => ?_
    exact behind_simple 23 23 1 false 0 0 0 0 0 true true 1 _ b 0 0 (by decide) (by decide) false false W3 hC3 fun W4 hB4 hC4 => simple_lost 7 23 23 (by decide) (by decide) (by decide) _ b _ _ false false W4 hC4
  · intro W hW
    have v3 : (leafT 3 18446744073709551616).val = V10 3 false 0 1 0 0 0 ⟨#[]⟩ none 0 0 none 0 0 := by
      rw [leaf_val]
      have l0 : lb 0 18446744073709551616 = 0 := by decide
      have l1 : lb 1 18446744073709551616 = 1 := by decide
      have l2 : lb 2 18446744073709551616 = 0 := by decide
      have l3 : lb 3 18446744073709551616 = 0 := by decide
      rw [l0, l1, l2, l3]
    have hv : V10 3 false 0 1 0 0 0 ⟨#[]⟩ none 0 0 none 0 0 = V10 3 false (lb 0 18446744073709551616) (lb 1 18446744073709551616) (lb 2 18446744073709551616) (lb 3 18446744073709551616) 0 ⟨#[]⟩ none 0 0 none 0 0 := by rw [← v3, leaf_val]
    refine (enc_ok 3 false 0 1 0 0 0 ⟨#[]⟩ none 0 0 none 0 0 [194, 73, 1, 0, 0, 0, 0, 0, 0, 0, 0] (by decide) (by decide) W (fun W2 h2 => ?_) (fun W2 h2 => ?_)).mono ?_
    · have h := vmay (leafT 3 18446744073709551616) (by rw [leafT_nodes]; omega) W2 (leafT_q 3 18446744073709551616 (by omega) (by decide) W2 (tb_on (tb_on hT hW) h2))
      rw [v3, leaf3_may] at h
      exact h
    · have h := aval_int false 18446744073709551616 (by decide) (by decide) 0 ⟨#[]⟩ none 0 0 none 0 0 (.slice none 0 0) [] W.heap.size W2 h2.size (Bo.nil _ _) (by decide)
      rw [big_bytes, ← hv] at h
      exact h
    · rintro e w' ⟨v', rfl, hB, hb⟩
      obtain ⟨gg, cap, rfl, _⟩ := hB.some (by decide)
      exact ⟨gg, cap, rfl, bo_bytes hB, hb⟩
end Go.Proofs.YtfaaagmjmljhiaaGreatDoor
end
