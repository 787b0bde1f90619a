/-
  entrepotlaw9.SpanLaws answers true for any three lists of spans.
-/
import Derived.Test.YtckahhgiobamcaaDoorSpN
import Derived.Test.YtckahhgiobamcaaDoorSpM
namespace Go.Proofs.YtckahhgiobamcaaDoor
open Go.RowKit Go.Shelf
attribute [local go_sem ↓] eql_nat neq_nat eql_int5 neq_int5

set_option maxRecDepth 100000 in
set_option maxHeartbeats 4000000 in
theorem laws_l1 (la : Option Addr) (n1 lca : Nat) (lb : Option Addr) (n2 lcb : Nat) (lc : Option Addr) (n3 lcc : Nat) (w : World) (hT : Tb w) (_h1 : n1 ≤ 9223372036854775807) (_h2 : n2 ≤ 9223372036854775807) (_h3 : n3 ≤ 9223372036854775807) (e1 : (8 : Int) < (n1 : Int)) :
    Calls Tryd.prog 6 #[.slice la n1 lca, .slice lb n2 lcb, .slice lc n3 lcc] w fun e w' => e = .returned (.bool true) ∧ Below w.heap.size w w' := by
  have HT := Lib.hid hT; clear hT
  go_enter Tryd.func6, Tryd.ntmps6
  go_wp2_with fail
  ((with_reducible refine (told9_true _ HT.out).mono ?_); rintro e w9 ⟨rfl, hb⟩)
  go_wp2
  go_ret
  exact ⟨rfl, btr (Below.refl _ _) hb⟩
set_option maxRecDepth 100000 in
set_option maxHeartbeats 4000000 in
theorem laws_l2 (la : Option Addr) (n1 lca : Nat) (lb : Option Addr) (n2 lcb : Nat) (lc : Option Addr) (n3 lcc : Nat) (w : World) (hT : Tb w) (_h1 : n1 ≤ 9223372036854775807) (_h2 : n2 ≤ 9223372036854775807) (_h3 : n3 ≤ 9223372036854775807) (e1 : ¬ (8 : Int) < (n1 : Int)) (e2 : (8 : Int) < (n2 : Int)) :
    Calls Tryd.prog 6 #[.slice la n1 lca, .slice lb n2 lcb, .slice lc n3 lcc] w fun e w' => e = .returned (.bool true) ∧ Below w.heap.size w w' := by
  have HT := Lib.hid hT; clear hT
  go_enter Tryd.func6, Tryd.ntmps6
  go_wp2_with fail
  ((with_reducible refine (told9_true _ HT.out).mono ?_); rintro e w9 ⟨rfl, hb⟩)
  go_wp2
  go_ret
  exact ⟨rfl, btr (Below.refl _ _) hb⟩
set_option maxRecDepth 100000 in
set_option maxHeartbeats 4000000 in
theorem laws_l3 (la : Option Addr) (n1 lca : Nat) (lb : Option Addr) (n2 lcb : Nat) (lc : Option Addr) (n3 lcc : Nat) (w : World) (hT : Tb w) (_h1 : n1 ≤ 9223372036854775807) (_h2 : n2 ≤ 9223372036854775807) (_h3 : n3 ≤ 9223372036854775807) (e1 : ¬ (8 : Int) < (n1 : Int)) (e2 : ¬ (8 : Int) < (n2 : Int)) (e3 : (8 : Int) < (n3 : Int)) :
    Calls Tryd.prog 6 #[.slice la n1 lca, .slice lb n2 lcb, .slice lc n3 lcc] w fun e w' => e = .returned (.bool true) ∧ Below w.heap.size w w' := by
  have HT := Lib.hid hT; clear hT
  go_enter Tryd.func6, Tryd.ntmps6
  go_wp2_with fail
  ((with_reducible refine (told9_true _ HT.out).mono ?_); rintro e w9 ⟨rfl, hb⟩)
  go_wp2
  go_ret
  exact ⟨rfl, btr (Below.refl _ _) hb⟩
set_option maxRecDepth 100000 in
set_option maxHeartbeats 4000000 in
theorem laws_m1 (la : Option Addr) (n1 lca : Nat) (lb : Option Addr) (n2 lcb : Nat) (lc : Option Addr) (n3 lcc : Nat) (w : World) (hT : Tb w) (_h1 : n1 ≤ 9223372036854775807) (_h2 : n2 ≤ 9223372036854775807) (_h3 : n3 ≤ 9223372036854775807) (e1 : ¬ (8 : Int) < (n1 : Int)) (e2 : ¬ (8 : Int) < (n2 : Int)) (e3 : ¬ (8 : Int) < (n3 : Int))
    (ma : ∀ W, Below w.heap.size w W → Calls Tryd.prog 10 #[.slice la n1 lca] W fun e w' => e = .returned (.bool false) ∧ Below W.heap.size W w') :
    Calls Tryd.prog 6 #[.slice la n1 lca, .slice lb n2 lcb, .slice lc n3 lcc] w fun e w' => e = .returned (.bool true) ∧ Below w.heap.size w w' := by
  have HT := Lib.hid hT; clear hT
  have Ma := Lib.hid ma; clear ma
  go_enter Tryd.func6, Tryd.ntmps6
  go_wp2_with fail
  ((with_reducible refine (Ma.out _ (Below.refl _ _)).mono ?_); rintro e w1 ⟨rfl, hb⟩)
  have B1 := Lib.hid (btr (Below.refl _ _) hb); clear hb
  go_wp2_with fail
  ((with_reducible refine (told9_true _ (tb_on HT.out B1.out)).mono ?_); rintro e w9 ⟨rfl, hb⟩)
  go_wp2
  go_ret
  exact ⟨rfl, btr B1.out hb⟩
set_option maxRecDepth 100000 in
set_option maxHeartbeats 4000000 in
theorem laws_m2 (la : Option Addr) (n1 lca : Nat) (lb : Option Addr) (n2 lcb : Nat) (lc : Option Addr) (n3 lcc : Nat) (w : World) (hT : Tb w) (_h1 : n1 ≤ 9223372036854775807) (_h2 : n2 ≤ 9223372036854775807) (_h3 : n3 ≤ 9223372036854775807) (e1 : ¬ (8 : Int) < (n1 : Int)) (e2 : ¬ (8 : Int) < (n2 : Int)) (e3 : ¬ (8 : Int) < (n3 : Int))
    (ma : ∀ W, Below w.heap.size w W → Calls Tryd.prog 10 #[.slice la n1 lca] W fun e w' => e = .returned (.bool true) ∧ Below W.heap.size W w')
    (mb : ∀ W, Below w.heap.size w W → Calls Tryd.prog 10 #[.slice lb n2 lcb] W fun e w' => e = .returned (.bool false) ∧ Below W.heap.size W w') :
    Calls Tryd.prog 6 #[.slice la n1 lca, .slice lb n2 lcb, .slice lc n3 lcc] w fun e w' => e = .returned (.bool true) ∧ Below w.heap.size w w' := by
  have HT := Lib.hid hT; clear hT
  have Ma := Lib.hid ma; clear ma
  have Mb := Lib.hid mb; clear mb
  go_enter Tryd.func6, Tryd.ntmps6
  go_wp2_with fail
  ((with_reducible refine (Ma.out _ (Below.refl _ _)).mono ?_); rintro e w1 ⟨rfl, hb⟩)
  have B1 := Lib.hid (btr (Below.refl _ _) hb); clear hb
  go_wp2_with fail
  ((with_reducible refine (Mb.out _ B1.out).mono ?_); rintro e w2 ⟨rfl, hb⟩)
  have B2 := Lib.hid (btr B1.out hb); clear hb
  go_wp2_with fail
  ((with_reducible refine (told9_true _ (tb_on HT.out B2.out)).mono ?_); rintro e w9 ⟨rfl, hb⟩)
  go_wp2
  go_ret
  exact ⟨rfl, btr B2.out hb⟩
set_option maxRecDepth 100000 in
set_option maxHeartbeats 4000000 in
theorem laws_m3 (la : Option Addr) (n1 lca : Nat) (lb : Option Addr) (n2 lcb : Nat) (lc : Option Addr) (n3 lcc : Nat) (w : World) (hT : Tb w) (_h1 : n1 ≤ 9223372036854775807) (_h2 : n2 ≤ 9223372036854775807) (_h3 : n3 ≤ 9223372036854775807) (e1 : ¬ (8 : Int) < (n1 : Int)) (e2 : ¬ (8 : Int) < (n2 : Int)) (e3 : ¬ (8 : Int) < (n3 : Int))
    (ma : ∀ W, Below w.heap.size w W → Calls Tryd.prog 10 #[.slice la n1 lca] W fun e w' => e = .returned (.bool true) ∧ Below W.heap.size W w')
    (mb : ∀ W, Below w.heap.size w W → Calls Tryd.prog 10 #[.slice lb n2 lcb] W fun e w' => e = .returned (.bool true) ∧ Below W.heap.size W w')
    (mc : ∀ W, Below w.heap.size w W → Calls Tryd.prog 10 #[.slice lc n3 lcc] W fun e w' => e = .returned (.bool false) ∧ Below W.heap.size W w') :
    Calls Tryd.prog 6 #[.slice la n1 lca, .slice lb n2 lcb, .slice lc n3 lcc] w fun e w' => e = .returned (.bool true) ∧ Below w.heap.size w w' := by
  have HT := Lib.hid hT; clear hT
  have Ma := Lib.hid ma; clear ma
  have Mb := Lib.hid mb; clear mb
  have Mc := Lib.hid mc; clear mc
  go_enter Tryd.func6, Tryd.ntmps6
  go_wp2_with fail
  ((with_reducible refine (Ma.out _ (Below.refl _ _)).mono ?_); rintro e w1 ⟨rfl, hb⟩)
  have B1 := Lib.hid (btr (Below.refl _ _) hb); clear hb
  go_wp2_with fail
  ((with_reducible refine (Mb.out _ B1.out).mono ?_); rintro e w2 ⟨rfl, hb⟩)
  have B2 := Lib.hid (btr B1.out hb); clear hb
  go_wp2_with fail
  ((with_reducible refine (Mc.out _ B2.out).mono ?_); rintro e w3 ⟨rfl, hb⟩)
  have B3 := Lib.hid (btr B2.out hb); clear hb
  go_wp2_with fail
  ((with_reducible refine (told9_true _ (tb_on HT.out B3.out)).mono ?_); rintro e w9 ⟨rfl, hb⟩)
  go_wp2
  go_ret
  exact ⟨rfl, btr B3.out hb⟩
set_option maxRecDepth 400000 in
set_option maxHeartbeats 32000000 in
theorem laws_main (la : Option Addr) (lca : Nat) (A : List Sp) (lb : Option Addr) (lcb : Nat) (B : List Sp) (lc : Option Addr) (lcc : Nat) (C : List Sp) (w0 : World) (hT : Tb w0) (hA : In9 w0 (.slice la A.length lca) A) (hB : In9 w0 (.slice lb B.length lcb) B) (hC : In9 w0 (.slice lc C.length lcc) C) (a8 : A.length ≤ 8) (b8 : B.length ≤ 8) (c8 : C.length ≤ 8) :
    Calls Tryd.prog 6 #[.slice la A.length lca, .slice lb B.length lcb, .slice lc C.length lcc] w0 fun e w' => e = .returned (.bool true) ∧ Below w0.heap.size w0 w' := by
  have HT := Lib.hid hT; have IA := Lib.hid (IS.of hA); have IB := Lib.hid (IS.of hB); have IC := Lib.hid (IS.of hC)
  clear hT hA hB hC
  have e1 : ¬ (8 : Int) < (A.length : Int) := by omega
  have e2 : ¬ (8 : Int) < (B.length : Int) := by omega
  have e3 : ¬ (8 : Int) < (C.length : Int) := by omega
  go_enter Tryd.func6, Tryd.ntmps6
  go_wp2_with fail
  ((with_reducible refine (may_is IA.out).mono ?_); rintro e w1 ⟨rfl, hb⟩)
  have HB1 := Lib.hid hb
  clear hb
  go_wp2_with fail
  ((with_reducible refine (may_is (IB.out.keep HB1.out)).mono ?_); rintro e w2 ⟨rfl, hb⟩)
  have HB2 := Lib.hid hb
  clear hb
  go_wp2_with fail
  ((with_reducible refine (may_is (IC.out.keep (btr HB1.out HB2.out))).mono ?_); rintro e w3 ⟨rfl, hb⟩)
  have HB3 := Lib.hid hb
  clear hb
  go_wp2_with fail
  ((with_reducible refine (or_is (IA.out.keep (btr (btr HB1.out HB2.out) HB3.out)) (IB.out.keep (btr (btr HB1.out HB2.out) HB3.out))).mono ?_); rintro e w4 ⟨v4, rfl, hN, hb⟩)
  have HB4 := Lib.hid hb
  clear hb
  have N4 := Lib.hid hN
  clear hN
  go_wp2_with fail
  ((with_reducible refine (not_is ((N4.out).is (by omega))).mono ?_); rintro e w5 ⟨v5, rfl, hN, hb⟩)
  have HB5 := Lib.hid hb
  clear hb
  have N5 := Lib.hid hN
  clear hN
  go_wp2_with fail
  ((with_reducible refine (not_is (IA.out.keep (btr (btr (btr (btr HB1.out HB2.out) HB3.out) HB4.out) HB5.out))).mono ?_); rintro e w6 ⟨v6, rfl, hN, hb⟩)
  have HB6 := Lib.hid hb
  clear hb
  have N6 := Lib.hid hN
  clear hN
  go_wp2_with fail
  ((with_reducible refine (not_is (IB.out.keep (btr (btr (btr (btr (btr HB1.out HB2.out) HB3.out) HB4.out) HB5.out) HB6.out))).mono ?_); rintro e w7 ⟨v7, rfl, hN, hb⟩)
  have HB7 := Lib.hid hb
  clear hb
  have N7 := Lib.hid hN
  clear hN
  go_wp2_with fail
  ((with_reducible refine (and_is (((N6.out.keep HB7.out)).is (by omega)) ((N7.out).is (by omega))).mono ?_); rintro e w8 ⟨v8, rfl, hN, hb⟩)
  have HB8 := Lib.hid hb
  clear hb
  have N8 := Lib.hid hN
  clear hN
  go_wp2_with fail
  ((with_reducible refine (or_is (IB.out.keep (btr (btr (btr (btr (btr (btr (btr HB1.out HB2.out) HB3.out) HB4.out) HB5.out) HB6.out) HB7.out) HB8.out)) (IC.out.keep (btr (btr (btr (btr (btr (btr (btr HB1.out HB2.out) HB3.out) HB4.out) HB5.out) HB6.out) HB7.out) HB8.out))).mono ?_); rintro e w9 ⟨v9, rfl, hN, hb⟩)
  have HB9 := Lib.hid hb
  clear hb
  have N9 := Lib.hid hN
  clear hN
  go_wp2_with fail
  ((with_reducible refine (and_is (IA.out.keep (btr (btr (btr (btr (btr (btr (btr (btr HB1.out HB2.out) HB3.out) HB4.out) HB5.out) HB6.out) HB7.out) HB8.out) HB9.out)) ((N9.out).is (by omega))).mono ?_); rintro e w10 ⟨v10, rfl, hN, hb⟩)
  have HB10 := Lib.hid hb
  clear hb
  have N10 := Lib.hid hN
  clear hN
  go_wp2_with fail
  ((with_reducible refine (and_is (IA.out.keep (btr (btr (btr (btr (btr (btr (btr (btr (btr HB1.out HB2.out) HB3.out) HB4.out) HB5.out) HB6.out) HB7.out) HB8.out) HB9.out) HB10.out)) (IB.out.keep (btr (btr (btr (btr (btr (btr (btr (btr (btr HB1.out HB2.out) HB3.out) HB4.out) HB5.out) HB6.out) HB7.out) HB8.out) HB9.out) HB10.out))).mono ?_); rintro e w11 ⟨v11, rfl, hN, hb⟩)
  have HB11 := Lib.hid hb
  clear hb
  have N11 := Lib.hid hN
  clear hN
  go_wp2_with fail
  ((with_reducible refine (and_is (IA.out.keep (btr (btr (btr (btr (btr (btr (btr (btr (btr (btr HB1.out HB2.out) HB3.out) HB4.out) HB5.out) HB6.out) HB7.out) HB8.out) HB9.out) HB10.out) HB11.out)) (IC.out.keep (btr (btr (btr (btr (btr (btr (btr (btr (btr (btr HB1.out HB2.out) HB3.out) HB4.out) HB5.out) HB6.out) HB7.out) HB8.out) HB9.out) HB10.out) HB11.out))).mono ?_); rintro e w12 ⟨v12, rfl, hN, hb⟩)
  have HB12 := Lib.hid hb
  clear hb
  have N12 := Lib.hid hN
  clear hN
  go_wp2_with fail
  ((with_reducible refine (or_is (((N11.out.keep HB12.out)).is (by omega)) ((N12.out).is (by omega))).mono ?_); rintro e w13 ⟨v13, rfl, hN, hb⟩)
  have HB13 := Lib.hid hb
  clear hb
  have N13 := Lib.hid hN
  clear hN
  go_wp2_with fail
  ((with_reducible refine (told9_true _ (tb_on HT.out (btr (btr (btr (btr (btr (btr (btr (btr (btr (btr (btr (btr HB1.out HB2.out) HB3.out) HB4.out) HB5.out) HB6.out) HB7.out) HB8.out) HB9.out) HB10.out) HB11.out) HB12.out) HB13.out))).mono ?_); rintro e w14 ⟨rfl, hb⟩)
  have HB14 := Lib.hid hb
  clear hb
  go_wp2_with fail
  ((with_reducible refine (rsame_ns (N5.out.keep (btr (btr (btr (btr (btr (btr (btr (btr HB6.out HB7.out) HB8.out) HB9.out) HB10.out) HB11.out) HB12.out) HB13.out) HB14.out)) (N8.out.keep (btr (btr (btr (btr (btr HB9.out HB10.out) HB11.out) HB12.out) HB13.out) HB14.out)) (fun x _ _ => by cases memS A x <;> cases memS B x <;> simp)).mono ?_); rintro e w15 ⟨rfl, hb⟩)
  have HB15 := Lib.hid hb
  clear hb
  go_wp2_with fail
  ((with_reducible refine (rsame_ns (N10.out.keep (btr (btr (btr (btr HB11.out HB12.out) HB13.out) HB14.out) HB15.out)) (N13.out.keep (btr HB14.out HB15.out)) (fun x _ _ => by cases memS A x <;> cases memS B x <;> cases memS C x <;> simp)).mono ?_); rintro e w16 ⟨rfl, hb⟩)
  have HB16 := Lib.hid hb
  clear hb
  go_wp2_with fail
  ((with_reducible refine (or_is (IA.out.keep (btr (btr (btr (btr (btr (btr (btr (btr (btr (btr (btr (btr (btr (btr (btr HB1.out HB2.out) HB3.out) HB4.out) HB5.out) HB6.out) HB7.out) HB8.out) HB9.out) HB10.out) HB11.out) HB12.out) HB13.out) HB14.out) HB15.out) HB16.out)) (IB.out.keep (btr (btr (btr (btr (btr (btr (btr (btr (btr (btr (btr (btr (btr (btr (btr HB1.out HB2.out) HB3.out) HB4.out) HB5.out) HB6.out) HB7.out) HB8.out) HB9.out) HB10.out) HB11.out) HB12.out) HB13.out) HB14.out) HB15.out) HB16.out))).mono ?_); rintro e w17 ⟨v17, rfl, hN, hb⟩)
  have HB17 := Lib.hid hb
  clear hb
  have N17 := Lib.hid hN
  clear hN
  go_wp2_with fail
  ((with_reducible refine (or_is (IB.out.keep (btr (btr (btr (btr (btr (btr (btr (btr (btr (btr (btr (btr (btr (btr (btr (btr HB1.out HB2.out) HB3.out) HB4.out) HB5.out) HB6.out) HB7.out) HB8.out) HB9.out) HB10.out) HB11.out) HB12.out) HB13.out) HB14.out) HB15.out) HB16.out) HB17.out)) (IA.out.keep (btr (btr (btr (btr (btr (btr (btr (btr (btr (btr (btr (btr (btr (btr (btr (btr HB1.out HB2.out) HB3.out) HB4.out) HB5.out) HB6.out) HB7.out) HB8.out) HB9.out) HB10.out) HB11.out) HB12.out) HB13.out) HB14.out) HB15.out) HB16.out) HB17.out))).mono ?_); rintro e w18 ⟨v18, rfl, hN, hb⟩)
  have HB18 := Lib.hid hb
  clear hb
  have N18 := Lib.hid hN
  clear hN
  go_wp2_with fail
  ((with_reducible refine (rsame_ns (N17.out.keep HB18.out) N18.out (fun x _ _ => by cases memS A x <;> cases memS B x <;> simp)).mono ?_); rintro e w19 ⟨rfl, hb⟩)
  have HB19 := Lib.hid hb
  clear hb
  go_wp2_with fail
  ((with_reducible refine (and_is (IA.out.keep (btr (btr (btr (btr (btr (btr (btr (btr (btr (btr (btr (btr (btr (btr (btr (btr (btr (btr HB1.out HB2.out) HB3.out) HB4.out) HB5.out) HB6.out) HB7.out) HB8.out) HB9.out) HB10.out) HB11.out) HB12.out) HB13.out) HB14.out) HB15.out) HB16.out) HB17.out) HB18.out) HB19.out)) (IB.out.keep (btr (btr (btr (btr (btr (btr (btr (btr (btr (btr (btr (btr (btr (btr (btr (btr (btr (btr HB1.out HB2.out) HB3.out) HB4.out) HB5.out) HB6.out) HB7.out) HB8.out) HB9.out) HB10.out) HB11.out) HB12.out) HB13.out) HB14.out) HB15.out) HB16.out) HB17.out) HB18.out) HB19.out))).mono ?_); rintro e w20 ⟨v20, rfl, hN, hb⟩)
  have HB20 := Lib.hid hb
  clear hb
  have N20 := Lib.hid hN
  clear hN
  go_wp2_with fail
  ((with_reducible refine (and_is (IB.out.keep (btr (btr (btr (btr (btr (btr (btr (btr (btr (btr (btr (btr (btr (btr (btr (btr (btr (btr (btr HB1.out HB2.out) HB3.out) HB4.out) HB5.out) HB6.out) HB7.out) HB8.out) HB9.out) HB10.out) HB11.out) HB12.out) HB13.out) HB14.out) HB15.out) HB16.out) HB17.out) HB18.out) HB19.out) HB20.out)) (IA.out.keep (btr (btr (btr (btr (btr (btr (btr (btr (btr (btr (btr (btr (btr (btr (btr (btr (btr (btr (btr HB1.out HB2.out) HB3.out) HB4.out) HB5.out) HB6.out) HB7.out) HB8.out) HB9.out) HB10.out) HB11.out) HB12.out) HB13.out) HB14.out) HB15.out) HB16.out) HB17.out) HB18.out) HB19.out) HB20.out))).mono ?_); rintro e w21 ⟨v21, rfl, hN, hb⟩)
  have HB21 := Lib.hid hb
  clear hb
  have N21 := Lib.hid hN
  clear hN
  go_wp2_with fail
  ((with_reducible refine (rsame_ns (N20.out.keep HB21.out) N21.out (fun x _ _ => by cases memS A x <;> cases memS B x <;> simp)).mono ?_); rintro e w22 ⟨rfl, hb⟩)
  have HB22 := Lib.hid hb
  clear hb
  go_wp2_with fail
  ((with_reducible refine (and_is (IA.out.keep (btr (btr (btr (btr (btr (btr (btr (btr (btr (btr (btr (btr (btr (btr (btr (btr (btr (btr (btr (btr (btr HB1.out HB2.out) HB3.out) HB4.out) HB5.out) HB6.out) HB7.out) HB8.out) HB9.out) HB10.out) HB11.out) HB12.out) HB13.out) HB14.out) HB15.out) HB16.out) HB17.out) HB18.out) HB19.out) HB20.out) HB21.out) HB22.out)) (IA.out.keep (btr (btr (btr (btr (btr (btr (btr (btr (btr (btr (btr (btr (btr (btr (btr (btr (btr (btr (btr (btr (btr HB1.out HB2.out) HB3.out) HB4.out) HB5.out) HB6.out) HB7.out) HB8.out) HB9.out) HB10.out) HB11.out) HB12.out) HB13.out) HB14.out) HB15.out) HB16.out) HB17.out) HB18.out) HB19.out) HB20.out) HB21.out) HB22.out))).mono ?_); rintro e w23 ⟨v23, rfl, hN, hb⟩)
  have HB23 := Lib.hid hb
  clear hb
  have N23 := Lib.hid hN
  clear hN
  go_wp2_with fail
  ((with_reducible refine (norm_is (IA.out.keep (btr (btr (btr (btr (btr (btr (btr (btr (btr (btr (btr (btr (btr (btr (btr (btr (btr (btr (btr (btr (btr (btr HB1.out HB2.out) HB3.out) HB4.out) HB5.out) HB6.out) HB7.out) HB8.out) HB9.out) HB10.out) HB11.out) HB12.out) HB13.out) HB14.out) HB15.out) HB16.out) HB17.out) HB18.out) HB19.out) HB20.out) HB21.out) HB22.out) HB23.out))).mono ?_); rintro e w24 ⟨v24, rfl, hN, hb⟩)
  have HB24 := Lib.hid hb
  clear hb
  have N24 := Lib.hid hN
  clear hN
  go_wp2_with fail
  ((with_reducible refine (rsame_ns (N23.out.keep HB24.out) N24.out (fun x _ _ => by cases memS A x <;> simp)).mono ?_); rintro e w25 ⟨rfl, hb⟩)
  have HB25 := Lib.hid hb
  clear hb
  go_wp2_with fail
  ((with_reducible refine (or_is (IA.out.keep (btr (btr (btr (btr (btr (btr (btr (btr (btr (btr (btr (btr (btr (btr (btr (btr (btr (btr (btr (btr (btr (btr (btr (btr HB1.out HB2.out) HB3.out) HB4.out) HB5.out) HB6.out) HB7.out) HB8.out) HB9.out) HB10.out) HB11.out) HB12.out) HB13.out) HB14.out) HB15.out) HB16.out) HB17.out) HB18.out) HB19.out) HB20.out) HB21.out) HB22.out) HB23.out) HB24.out) HB25.out)) (IS.nil w25)).mono ?_); rintro e w26 ⟨v26, rfl, hN, hb⟩)
  have HB26 := Lib.hid hb
  clear hb
  have N26 := Lib.hid hN
  clear hN
  go_wp2_with fail
  ((with_reducible refine (norm_is (IA.out.keep (btr (btr (btr (btr (btr (btr (btr (btr (btr (btr (btr (btr (btr (btr (btr (btr (btr (btr (btr (btr (btr (btr (btr (btr (btr HB1.out HB2.out) HB3.out) HB4.out) HB5.out) HB6.out) HB7.out) HB8.out) HB9.out) HB10.out) HB11.out) HB12.out) HB13.out) HB14.out) HB15.out) HB16.out) HB17.out) HB18.out) HB19.out) HB20.out) HB21.out) HB22.out) HB23.out) HB24.out) HB25.out) HB26.out))).mono ?_); rintro e w27 ⟨v27, rfl, hN, hb⟩)
  have HB27 := Lib.hid hb
  clear hb
  have N27 := Lib.hid hN
  clear hN
  go_wp2_with fail
  ((with_reducible refine (rsame_ns (N26.out.keep HB27.out) N27.out (fun x _ _ => by cases memS A x <;> simp)).mono ?_); rintro e w28 ⟨rfl, hb⟩)
  have HB28 := Lib.hid hb
  clear hb
  go_wp2
  go_ret
  exact ⟨rfl, (btr (btr (btr (btr (btr (btr (btr (btr (btr (btr (btr (btr (btr (btr (btr (btr (btr (btr (btr (btr (btr (btr (btr (btr (btr (btr (btr HB1.out HB2.out) HB3.out) HB4.out) HB5.out) HB6.out) HB7.out) HB8.out) HB9.out) HB10.out) HB11.out) HB12.out) HB13.out) HB14.out) HB15.out) HB16.out) HB17.out) HB18.out) HB19.out) HB20.out) HB21.out) HB22.out) HB23.out) HB24.out) HB25.out) HB26.out) HB27.out) HB28.out)⟩
theorem in_of {w : World} {la : Option Addr} {lc : Nat} {l : List RS} {bb off : Nat} (hK : Ls w la l bb off) (h1 : l.length ≤ lc) (h2 : lc ≤ maxLen) (hx : ∀ r ∈ l, r.xl < 2 ^ 256 ∧ r.xh < 2 ^ 256) (hm : mayL l = true) : ∃ A : List Sp, l = A.map rsp ∧ In9 w (.slice la l.length lc) A := by
  unfold mayL at hm
  rw [Bool.and_eq_true] at hm
  obtain ⟨A, rfl, hR⟩ := rsp_list hx hm.2
  have h0 := of_decide_eq_true hm.1
  rw [List.length_map] at *
  exact ⟨A, rfl, la, lc, bb, off, rfl, hK, h1, h2, hR, h0⟩
/-- entrepotlaw9.SpanLaws. -/
theorem laws_any (la : Option Addr) (lca : Nat) (l : List RS) (ba oa : Nat) (lb : Option Addr) (lcb : Nat) (m : List RS) (bb ob : Nat) (lc : Option Addr) (lcc : Nat) (r : List RS) (bc oc : Nat) (w : World) (hT : Tb w)
    (k1 : Ls w la l ba oa) (k2 : Ls w lb m bb ob) (k3 : Ls w lc r bc oc) (x1 : ∀ r ∈ l, r.xl < 2 ^ 256 ∧ r.xh < 2 ^ 256) (x2 : ∀ r ∈ m, r.xl < 2 ^ 256 ∧ r.xh < 2 ^ 256) (x3 : ∀ q ∈ r, q.xl < 2 ^ 256 ∧ q.xh < 2 ^ 256)
    (c1 : l.length ≤ lca ∧ lca ≤ maxLen) (c2 : m.length ≤ lcb ∧ lcb ≤ maxLen) (c3 : r.length ≤ lcc ∧ lcc ≤ maxLen) :
    Calls Tryd.prog 6 #[.slice la l.length lca, .slice lb m.length lcb, .slice lc r.length lcc] w fun e w' => e = .returned (.bool true) ∧ Below w.heap.size w w' := by
  have n1 := k1.len; have n2 := k2.len; have n3 := k3.len
  by_cases e1 : (8 : Int) < (l.length : Int)
  · exact laws_l1 _ _ _ _ _ _ _ _ _ w hT n1 n2 n3 e1
  by_cases e2 : (8 : Int) < (m.length : Int)
  · exact laws_l2 _ _ _ _ _ _ _ _ _ w hT n1 n2 n3 e1 e2
  by_cases e3 : (8 : Int) < (r.length : Int)
  · exact laws_l3 _ _ _ _ _ _ _ _ _ w hT n1 n2 n3 e1 e2 e3
  have f1 := fun W hW => smay la lca l ba oa W (k1.keep hW) x1
  have f2 := fun W hW => smay lb lcb m bb ob W (k2.keep hW) x2
  have f3 := fun W hW => smay lc lcc r bc oc W (k3.keep hW) x3
  cases h1 : mayL l with
  | false => rw [h1] at f1; exact laws_m1 _ _ _ _ _ _ _ _ _ w hT n1 n2 n3 e1 e2 e3 f1
  | true =>
    rw [h1] at f1
    cases h2 : mayL m with
    | false => rw [h2] at f2; exact laws_m2 _ _ _ _ _ _ _ _ _ w hT n1 n2 n3 e1 e2 e3 f1 f2
    | true =>
      rw [h2] at f2
      cases h3 : mayL r with
      | false => rw [h3] at f3; exact laws_m3 _ _ _ _ _ _ _ _ _ w hT n1 n2 n3 e1 e2 e3 f1 f2 f3
      | true =>
        obtain ⟨A, rfl, hA⟩ := in_of k1 c1.1 c1.2 x1 h1
        obtain ⟨B, rfl, hB⟩ := in_of k2 c2.1 c2.2 x2 h2
        obtain ⟨C, rfl, hC⟩ := in_of k3 c3.1 c3.2 x3 h3
        rw [List.length_map] at *
        rw [List.length_map] at *
        rw [List.length_map] at *
        exact laws_main la lca A lb lcb B lc lcc C w hT hA hB hC (by omega) (by omega) (by omega)
end Go.Proofs.YtckahhgiobamcaaDoor
