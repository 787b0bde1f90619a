/-
  value.May: the contract, for every value that lies in memory, is small enough and has at most 10,000 nodes.
-/
import Derived.Test.YtocffoemimghhaaGreatDoorValOwn
namespace Go.Proofs.YtocffoemimghhaaGreatDoor
open Go.RowKit Go.Shelf

def overT (T : VT) : Bool := overB T.o T.kids.length
def wrongT (T : VT) : Bool := !ownB T.o T.kids.length
/-- What value.May answers, of what has nodes few enough. -/
def mayN (T : VT) : Int := if 16 < T.depth then 4 else if hasT overT T then 8 else if hasT wrongT T then 1 else 0

section
variable (kd : Int) (g : Bool) (x0 x1 x2 x3 b : Int) (s : ByteArray) (la : Option Addr) (n lc : Nat) (ka : Option Addr) (m kc : Nat) (w : World)
theorem vmay_deep (k1 : ∀ W, Below w.heap.size w W → Calls Tryz.prog 21 #[V10 kd g x0 x1 x2 x3 b s la n lc ka m kc, .int .i64 16] W fun e w' => e = .returned (.bool true) ∧ Below W.heap.size W w') :
    Calls Tryz.prog 14 #[V10 kd g x0 x1 x2 x3 b s la n lc ka m kc] w fun e w' => e = .returned (.int .i64 4) ∧ Below w.heap.size w w' := by
  have K1 := Lib.hid k1; clear k1
  go_enter Tryz.func14, Tryz.ntmps14
  go_wp2_with fail
  ((with_reducible refine (K1.out _ (bal (Below.refl _ _) _)).mono ?_); rintro e w1 ⟨rfl, hb1⟩)
  go_wp2
  go_ret
  exact ⟨rfl, btr (bal (Below.refl _ _) _) hb1⟩
theorem vmay_core (z : Int) (hz : 0 ≤ z) (o r : Bool) (R : Int) (hR : R = if o then 8 else if r then 1 else 0)
    (k1 : ∀ W, Below w.heap.size w W → Calls Tryz.prog 21 #[V10 kd g x0 x1 x2 x3 b s la n lc ka m kc, .int .i64 16] W fun e w' => e = .returned (.bool false) ∧ Below W.heap.size W w')
    (k2 : ∀ W, Below w.heap.size w W → Calls Tryz.prog 22 #[V10 kd g x0 x1 x2 x3 b s la n lc ka m kc, .int .i64 10000] W fun e w' => e = .returned (.int .i64 z) ∧ Below W.heap.size W w')
    (k3 : ∀ W, Below w.heap.size w W → Calls Tryz.prog 23 #[V10 kd g x0 x1 x2 x3 b s la n lc ka m kc, .func (.func 24) #[] #[]] W fun e w' => e = .returned (.bool o) ∧ Below W.heap.size W w')
    (k4 : ∀ W, Below w.heap.size w W → Calls Tryz.prog 23 #[V10 kd g x0 x1 x2 x3 b s la n lc ka m kc, .func (.func 25) #[] #[]] W fun e w' => e = .returned (.bool r) ∧ Below W.heap.size W w') :
    Calls Tryz.prog 14 #[V10 kd g x0 x1 x2 x3 b s la n lc ka m kc] w fun e w' => e = .returned (.int .i64 R) ∧ Below w.heap.size w w' := by
  have K1 := Lib.hid k1; have K2 := Lib.hid k2; have K3 := Lib.hid k3; have K4 := Lib.hid k4
  clear k1 k2 k3 k4
  have h0 : decide (z < 0) = false := decide_eq_false (by omega)
  cases o <;> cases r
  all_goals
    have HR := Lib.hid hR
    clear hR
    go_enter Tryz.func14, Tryz.ntmps14
    go_wp2_with fail
    ((with_reducible refine (K1.out _ (bal (Below.refl _ _) _)).mono ?_); rintro e w1 ⟨rfl, hb1⟩)
    have R := Row10.keep hb1 (Row10.new w (.int .i64 kd) (.bool g) (.int .u64 x0) (.int .u64 x1) (.int .u64 x2) (.int .u64 x3) (.int .u64 b) (.string s) (.slice la n lc) (.slice ka m kc))
    have B1 := Lib.hid (btr (bal (Below.refl _ w) _) hb1)
    obtain ⟨p0, p1, p2, p3, p4, p5, p6, p7, p8, p9⟩ := R.parts
    clear hb1
    go_wp2_with fail
    ((with_reducible refine (K2.out _ B1.out).mono ?_); rintro e w2 ⟨rfl, hb2⟩)
    have R2 := Row10.keep hb2 R
    have B2 := Lib.hid (btr B1.out hb2)
    clear p0 p1 p2 p3 p4 p5 p6 p7 p8 p9 R hb2 B1
    obtain ⟨p0, p1, p2, p3, p4, p5, p6, p7, p8, p9⟩ := R2.parts
    go_wp2_with fail
    ((with_reducible refine (K3.out _ B2.out).mono ?_); rintro e w3 ⟨rfl, hb3⟩)
    have R3 := Row10.keep hb3 R2
    have B3 := Lib.hid (btr B2.out hb3)
    clear p0 p1 p2 p3 p4 p5 p6 p7 p8 p9 R2 hb3 B2
    obtain ⟨p0, p1, p2, p3, p4, p5, p6, p7, p8, p9⟩ := R3.parts
    first
    | (go_wp2_with (go_at_call 23; ((with_reducible refine (K4.out _ B3.out).mono ?_); rintro e w4 ⟨rfl, hb4⟩))
       go_ret
       exact ⟨ret_int HR.out.symm, btr B3.out hb4⟩)
    | (go_wp2
       go_ret
       exact ⟨ret_int HR.out.symm, B3.out⟩)
end

/-- value.May. -/
theorem vmay (T : VT) (hn : T.nodes ≤ 10000) (w : World) (hQ : Qv T w) : Calls Tryz.prog 14 #[T.val] w fun e w' => e = .returned (.int .i64 (mayN T)) ∧ Below w.heap.size w w' := by
  have k1 := fun W (hb : Below w.heap.size w W) => vdeeper 16 (by omega) T W (hQ.ins.keep hb)
  have k2 := fun W (hb : Below w.heap.size w W) => vleft T 10000 W (by omega) (by omega) (hQ.ins.keep hb)
  have k3 := fun W (hb : Below w.heap.size w W) => vhas 24 (enters_of Tryz.func24 (by kernel_rfl) rfl) overT Qv (fun o l w h t ht => h.kid t ht) (fun _ _ _ h hb => h.keep hb) (fun _ _ h => h.ins) (fun T w h => over_any T w h.ins) T W (hQ.keep hb)
  have k4 := fun W (hb : Below w.heap.size w W) => vhas 25 (enters_of Tryz.func25 (by kernel_rfl) rfl) wrongT Qv (fun o l w h t ht => h.kid t ht) (fun _ _ _ h hb => h.keep hb) (fun _ _ h => h.ins) (fun T w h => wrong_any T w h) T W (hQ.keep hb)
  rw [deepT_iff] at k1
  unfold mayN
  by_cases hd : 16 < T.depth
  · rw [if_pos hd]
    rw [decide_eq_true hd] at k1
    exact vmay_deep _ _ _ _ _ _ _ _ _ _ _ _ _ _ w k1
  · rw [if_neg hd]
    rw [decide_eq_false hd] at k1
    exact vmay_core _ _ _ _ _ _ _ _ _ _ _ _ _ _ w _ (by omega) _ _ _ rfl k1 k2 k3 k4
end Go.Proofs.YtocffoemimghhaaGreatDoor
