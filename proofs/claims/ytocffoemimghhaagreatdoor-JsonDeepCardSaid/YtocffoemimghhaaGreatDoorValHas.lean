/-
  value.deeper, value.left, value.has: the contracts.
-/
import Derived.Test.YtocffoemimghhaaGreatDoorGX
namespace Go.Proofs.YtocffoemimghhaaGreatDoor
open Go.RowKit Go.Shelf

theorem alloc_cell {W : World} {B i : Nat} {v : Value} (h : W.cell? ⟨B, i, none⟩ = some v) (o : Obj) : (W.alloc o).cell? ⟨B, i, none⟩ = some v :=
  (World.cell?_alloc_lt W o ⟨B, i, none⟩ (cell_lt h)).trans h

theorem vcell_new2 (w : World) (o : Obj) (v : Value) (t : TypeId) : ((w.alloc o).alloc (.cells #[v] t)).cell? ⟨w.heap.size + 1, 0, none⟩ = some v := by
  have h := heap_alloc_new (w.alloc o) (.cells #[v] t)
  have hs : (w.alloc o).heap.size = w.heap.size + 1 := by simp
  rw [hs] at h
  exact cell_of_row _ _ 0 _ _ _ h
theorem deep_in (n : Nat) (hn : n ≤ 1000) (ih : ∀ (T : VT) (w : World), T.In w → Calls Tryz.prog 21 #[T.val, .int .i64 (n : Nat)] w fun e w' => e = .returned (.bool (deepT n T)) ∧ Below w.heap.size w w')
    (t : VT) (W : World) (B : Nat) (hc : W.cell? ⟨B, 0, none⟩ = some (.int .i64 ((n : Int) + 1))) (hI : t.In W) :
    Calls Tryz.prog 44 #[t.val, .pointer (some ⟨B, 0, none⟩)] W fun e w' => e = .returned (.bool (deepT n t)) ∧ Below W.heap.size W w' := by
  have hc2 := fun o => alloc_cell hc o
  have HI := Lib.hid hI; have IH := Lib.hid ih
  clear hI ih
  have hcall := IH.out t
  obtain ⟨o2, l2⟩ := t
  obtain ⟨kd2, g2, x2, b2, s2, la2, lc2, ka2, kc2, ks2⟩ := o2
  simp only [VT.val, VT.cells, VT.o_mk, VT.kids_mk] at hcall ⊢
  have HC := Lib.hid hcall
  clear hcall
  go_enter Tryz.func44, Tryz.ntmps44
  go_wp2_with fail
  ((with_reducible refine (HC.out _ (HI.out.keep (bal (Below.refl _ _) _))).mono ?_); rintro e w1 ⟨rfl, hb1⟩)
  go_wp2
  go_ret
  exact ⟨rfl, btr (bal (Below.refl _ _) _) hb1⟩

theorem deep_zero (T : VT) (w : World) : Calls Tryz.prog 21 #[T.val, .int .i64 0] w fun e w' => e = .returned (.bool true) ∧ Below w.heap.size w w' := by
  obtain ⟨o2, l2⟩ := T
  obtain ⟨kd2, g2, x2, b2, s2, la2, lc2, ka2, kc2, ks2⟩ := o2
  simp only [VT.val, VT.cells, VT.o_mk, VT.kids_mk]
  go_enter Tryz.func21, Tryz.ntmps21
  go_wp2
  go_ret
  exact ⟨rfl, bal (bal (Below.refl _ _) _) _⟩
theorem deep_more (n : Nat) (hn : n ≤ 1000) (kd : Int) (g : Bool) (x0 x1 x2 x3 b : Int) (s : ByteArray) (la : Option Addr) (lc : Nat) (ka : Option Addr) (m kc : Nat) (kids : List VT) (q : Bool) (w : World)
    (hp : ∀ W, Below w.heap.size w W → W.cell? ⟨w.heap.size + 1, 0, none⟩ = some (.int .i64 ((n : Int) + 1)) →
      Calls Tryz.prog 43 #[.slice la kids.length lc, .func (.func 44) #[] #[.pointer (some ⟨w.heap.size + 1, 0, none⟩)]] W fun e w' => e = .returned (.bool q) ∧ Below W.heap.size W w') :
    Calls Tryz.prog 21 #[V10 kd g x0 x1 x2 x3 b s la kids.length lc ka m kc, .int .i64 ((n : Int) + 1)] w fun e w' => e = .returned (.bool q) ∧ Below w.heap.size w w' := by
  have h0 : (((n : Int) + 1) == 0) = false := by rw [beq_eq_false_iff_ne]; omega
  have HP := Lib.hid hp
  have HCL : Hid (∀ o : Obj, ((w.alloc o).alloc (.cells #[.int .i64 ((n : Int) + 1)] 3)).cell? ⟨w.heap.size + 1, 0, none⟩ = some (.int .i64 ((n : Int) + 1))) := fun o => vcell_new2 w o _ _
  clear hp
  go_enter Tryz.func21, Tryz.ntmps21
  go_wp2_with fail
  ((with_reducible refine (HP.out _ (bal (bal (Below.refl _ _) _) _) (HCL.out _)).mono ?_); rintro e w1 ⟨rfl, hb1⟩)
  go_wp2
  go_ret
  exact ⟨rfl, btr (bal (bal (Below.refl _ _) _) _) hb1⟩
/-- value.deeper. -/
theorem vdeeper : ∀ (n : Nat), n ≤ 1000 → ∀ (T : VT) (w : World), T.In w → Calls Tryz.prog 21 #[T.val, .int .i64 (n : Nat)] w fun e w' => e = .returned (.bool (deepT n T)) ∧ Below w.heap.size w w'
  | 0, _, T, w, _ => deep_zero T w
  | n + 1, hn, T, w, hI => by
    have ih := vdeeper n (by omega)
    obtain ⟨o, kids⟩ := T
    obtain ⟨bb, off, hK⟩ := hI.kids'
    refine deep_more n (by omega) _ _ _ _ _ _ _ _ _ _ _ _ _ kids _ w (fun W hb hc => ?_)
    refine vcontains 44 _ (enters_of Tryz.func44 (by kernel_rfl) rfl) (deepT n) _ _ kids bb off W (hK.keep hb) (fun t ht W' hb' => ?_)
    obtain ⟨i, hi⟩ := List.getElem?_of_mem ht
    exact deep_in n (by omega) ih t W' _ (cell_keep hb' hc) (((hK.ins i t hi).keep hb).keep hb')
end Go.Proofs.YtocffoemimghhaaGreatDoor
