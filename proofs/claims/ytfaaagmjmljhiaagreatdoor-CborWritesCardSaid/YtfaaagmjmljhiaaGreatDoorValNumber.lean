/-
  value.Number: the contract.
-/
import Derived.Test.YtfaaagmjmljhiaaGreatDoorValIn
namespace Go.Proofs.YtfaaagmjmljhiaaGreatDoor
open Go.RowKit Go.Shelf

theorem vbsc10 {w X : World} (h : Below w.heap.size w X) {b : Nat} (hb : w.heap.size ≤ b) (v0 v1 v2 v3 v4 v5 v6 v7 v8 v9 : Value) :
    Below w.heap.size w ((((((((((X.setCell ⟨b, 0, none⟩ v0).setCell ⟨b, 1, none⟩ v1).setCell ⟨b, 2, none⟩ v2).setCell ⟨b, 3, none⟩ v3).setCell ⟨b, 4, none⟩ v4).setCell ⟨b, 5, none⟩ v5).setCell ⟨b, 6, none⟩ v6).setCell ⟨b, 7, none⟩ v7).setCell ⟨b, 8, none⟩ v8).setCell ⟨b, 9, none⟩ v9) :=
  bsc (bsc (bsc (bsc (bsc (bsc (bsc (bsc (bsc (bsc h hb _) hb _) hb _) hb _) hb _) hb _) hb _) hb _) hb _) hb _

set_option maxHeartbeats 1000000 in
theorem number_yes (b : Int) (g : Bool) (x0 x1 x2 x3 : Int) (w : World)
    (k1 : ∀ W, Below w.heap.size w W → Calls Tryz.prog 121 #[.int .u64 b] W fun e w' => e = .returned (.tuple #[.agg #[.bool g, .int .u64 x0, .int .u64 x1, .int .u64 x2, .int .u64 x3], .bool true]) ∧ Below W.heap.size W w') :
    Calls Tryz.prog 119 #[.int .u64 b] w fun e w' => e = .returned (V10 3 g x0 x1 x2 x3 0 ⟨#[]⟩ none 0 0 none 0 0) ∧ Below w.heap.size w w' := by
  have K1 := Lib.hid k1
  clear k1
  go_enter Tryz.func119, Tryz.ntmps119
  go_wp2_with fail
  ((with_reducible refine (K1.out _ (bal (Below.refl _ _) _)).mono ?_); rintro e w1 ⟨rfl, hb1⟩)
  have R := Row10.keep hb1 (Row10.new w (.int .i64 0) (.bool false) (.int .u64 0) (.int .u64 0) (.int .u64 0) (.int .u64 0) (.int .u64 0) (.string ⟨#[]⟩) (.slice none 0 0) (.slice none 0 0))
  have B1 := Lib.hid (btr (bal (Below.refl _ w) _) hb1)
  obtain ⟨p0, p1, p2, p3, p4, p5, p6, p7, p8, p9⟩ := R.parts
  have hf := R.free
  have hlt := R.lt
  clear hb1
  go_wp2
  have RN := fun o => ((R.set10 (.int .i64 3) (.bool g) (.int .u64 x0) (.int .u64 x1) (.int .u64 x2) (.int .u64 x3) (.int .u64 0) (.string ⟨#[]⟩) (.slice none 0 0) (.slice none 0 0)).alloc o).parts
  have q0 := fun o => (RN o).1
  have q1 := fun o => (RN o).2.1
  have q2 := fun o => (RN o).2.2.1
  have q3 := fun o => (RN o).2.2.2.1
  have q4 := fun o => (RN o).2.2.2.2.1
  have q5 := fun o => (RN o).2.2.2.2.2.1
  have q6 := fun o => (RN o).2.2.2.2.2.2.1
  have q7 := fun o => (RN o).2.2.2.2.2.2.2.1
  have q8 := fun o => (RN o).2.2.2.2.2.2.2.2.1
  have q9 := fun o => (RN o).2.2.2.2.2.2.2.2.2
  clear RN
  exact bodyPost_ret (v := V10 3 g x0 x1 x2 x3 0 ⟨#[]⟩ none 0 0 none 0 0) (by simp [results, Tryz.results119, go_sem, q0, q1, q2, q3, q4, q5, q6, q7, q8, q9]) rfl ⟨rfl, bal (vbsc10 B1.out (Nat.le_refl _) _ _ _ _ _ _ _ _ _ _) _⟩
set_option maxHeartbeats 1000000 in
theorem number_no (b c : Int) (w : World)
    (k1 : ∀ W, Below w.heap.size w W → Calls Tryz.prog 121 #[.int .u64 b] W fun e w' => e = .returned (.tuple #[Z5, .bool false]) ∧ Below W.heap.size W w')
    (k2 : ∀ W, Calls Tryz.prog 79 #[.int .u64 b] W fun e w' => e = .returned (.int .u64 c) ∧ W = w') :
    Calls Tryz.prog 119 #[.int .u64 b] w fun e w' => e = .returned (V10 4 false 0 0 0 0 c ⟨#[]⟩ none 0 0 none 0 0) ∧ Below w.heap.size w w' := by
  have K1 := Lib.hid k1; have K2 := Lib.hid k2
  clear k1 k2
  go_enter Tryz.func119, Tryz.ntmps119
  go_wp2_with fail
  ((with_reducible refine (K1.out _ (bal (Below.refl _ _) _)).mono ?_); rintro e w1 ⟨rfl, hb1⟩)
  have R := Row10.keep hb1 (Row10.new w (.int .i64 0) (.bool false) (.int .u64 0) (.int .u64 0) (.int .u64 0) (.int .u64 0) (.int .u64 0) (.string ⟨#[]⟩) (.slice none 0 0) (.slice none 0 0))
  have B1 := Lib.hid (btr (bal (Below.refl _ w) _) hb1)
  obtain ⟨p0, p1, p2, p3, p4, p5, p6, p7, p8, p9⟩ := R.parts
  have hf := R.free
  have hlt := R.lt
  clear hb1
  go_wp2_with (go_at_call 79; ((with_reducible refine (K2.out _).mono ?_); rintro e w2 ⟨rfl, rfl⟩))
  have RN := fun o => ((R.set10 (.int .i64 4) (.bool false) (.int .u64 0) (.int .u64 0) (.int .u64 0) (.int .u64 0) (.int .u64 c) (.string ⟨#[]⟩) (.slice none 0 0) (.slice none 0 0)).alloc o).parts
  have q0 := fun o => (RN o).1
  have q1 := fun o => (RN o).2.1
  have q2 := fun o => (RN o).2.2.1
  have q3 := fun o => (RN o).2.2.2.1
  have q4 := fun o => (RN o).2.2.2.2.1
  have q5 := fun o => (RN o).2.2.2.2.2.1
  have q6 := fun o => (RN o).2.2.2.2.2.2.1
  have q7 := fun o => (RN o).2.2.2.2.2.2.2.1
  have q8 := fun o => (RN o).2.2.2.2.2.2.2.2.1
  have q9 := fun o => (RN o).2.2.2.2.2.2.2.2.2
  clear RN
  exact bodyPost_ret (v := V10 4 false 0 0 0 0 c ⟨#[]⟩ none 0 0 none 0 0) (by simp [results, Tryz.results119, go_sem, q0, q1, q2, q3, q4, q5, q6, q7, q8, q9]) rfl ⟨rfl, bal (vbsc10 B1.out (Nat.le_refl _) _ _ _ _ _ _ _ _ _ _) _⟩
end Go.Proofs.YtfaaagmjmljhiaaGreatDoor
