/-
  entrepotlaw2.WholeNear answers true for every two whole numbers. The tables math/bits.deBruijn64tab, internal/strconv.uint64pow10 read as their initialisers lay them.
-/
import Derived.Test.YtbegblkfdnaloaaDoorNearWalk
import Derived.Test.YtbegblkfdnaloaaDoorNearMath
namespace Go.Proofs.YtbegblkfdnaloaaDoor
open Go.RowKit Go.Shelf

theorem cmpv_le (x y : Int) : cmpv x y ≤ 0 ↔ x ≤ y := by unfold cmpv; split; omega; split <;> omega
theorem cmpv_ge (x y : Int) : 0 ≤ cmpv x y ↔ y ≤ x := by unfold cmpv; split; omega; split <;> omega
theorem cmpv_lt (x y : Int) : cmpv x y < 0 ↔ x < y := by unfold cmpv; split; omega; split <;> omega
theorem cmpv_gt (x y : Int) : 0 < cmpv x y ↔ y < x := by unfold cmpv; split; omega; split <;> omega
theorem cmpv_three (x y : Int) : cmpv x y = -1 ∨ cmpv x y = 0 ∨ cmpv x y = 1 := by unfold cmpv; split; omega; split <;> omega

theorem near_z (a b : Int) (ha : a.natAbs < 2 ^ 256) (hb : b.natAbs < 2 ^ 256) (w : World) (hT : Tabs w) :
    Calls Tryd.prog 12 #[Iz a, Iz b] w fun e w' => e = .returned (.bool true) ∧ Below w.heap.size w w' := by
  have na : (-a).natAbs < 2 ^ 256 := by omega
  have nb : (-b).natAbs < 2 ^ 256 := by omega
  have enb : exq (-b).natAbs = exq b.natAbs := by rw [Int.natAbs_neg]
  obtain ⟨r1, r2, r3⟩ := rup_ge ha
  obtain ⟨s1, s2, s3⟩ := rup_ge na
  have s2' : (-(rup (-a))).natAbs < 2 ^ 256 := by omega
  have s3' : exq (-(rup (-a))).natAbs = false := by rw [Int.natAbs_neg]; exact s3
  have k3 : ∀ W, Tb W → Calls Tryd.prog 69 #[Iz a] W fun e w' => e = .returned (.tuple #[Iz (rup a), .bool true]) ∧ Below W.heap.size W w' := fun W hW => by
    have := roup_z a ha W hW
    rwa [Znum_of r2] at this
  have k4 : ∀ W, Tb W → Calls Tryd.prog 70 #[Iz a] W fun e w' => e = .returned (.tuple #[Iz (-(rup (-a))), .bool true]) ∧ Below W.heap.size W w' := fun W hW => by
    have := rdown_z a ha W hW
    rwa [Znum_of s2'] at this
  have k5 := fun W hW => exact_z b hb W hW
  have k6 := fun W => cmp_z b a hb ha W
  have k9 := fun W => cmp_z (rup a) b r2 hb W
  have k10 := fun W => cmp_z (-(rup (-a))) b s2' hb W
  have k13 : ∀ W, Tb W → Calls Tryd.prog 71 #[Iz (rup a)] W fun e w' => e = .returned (.bool false) ∧ Below W.heap.size W w' := fun W hW => by
    have := exact_z (rup a) r2 W hW
    rwa [r3] at this
  have k14 := fun W => cmp_z (rup a) a r2 ha W
  have k15 : ∀ W, Tb W → Calls Tryd.prog 71 #[Iz (-(rup (-a)))] W fun e w' => e = .returned (.bool false) ∧ Below W.heap.size W w' := fun W hW => by
    have := exact_z (-(rup (-a))) s2' W hW
    rwa [s3'] at this
  have k16 := fun W => cmp_z (-(rup (-a))) a s2' ha W
  have f3 : exq b.natAbs = false → 0 ≤ cmpv b a → cmpv (rup a) b ≤ 0 := fun he hc => (cmpv_le _ _).2 (rup_le ha hb he ((cmpv_ge _ _).1 hc))
  have f4 : exq b.natAbs = false → cmpv b a ≤ 0 → 0 ≤ cmpv (-(rup (-a))) b := fun he hc => by
    have := rup_le na nb (by rw [enb]; exact he) (by have := (cmpv_le _ _).1 hc; omega)
    exact (cmpv_ge _ _).2 (by omega)
  have i3 : 0 ≤ cmpv (rup a) a := (cmpv_ge _ _).2 r1
  have i4 : cmpv (-(rup (-a))) a ≤ 0 := (cmpv_le _ _).2 (by omega)
  have up : (eup a).natAbs < 2 ^ 256 → (∀ W, Tb W → Calls Tryd.prog 66 #[Iz a] W fun e w' => e = .returned (.tuple #[Iz (eup a), .bool true]) ∧ Below W.heap.size W w') ∧
      (∀ W, Tb W → Calls Tryd.prog 71 #[Iz (eup a)] W fun e w' => e = .returned (.bool true) ∧ Below W.heap.size W w') := fun h => by
    refine ⟨fun W hW => ?_, fun W hW => ?_⟩
    · have := exup_z a ha W hW
      rwa [Znum_of h] at this
    · have := exact_z (eup a) h W hW
      rwa [(eup_ge ha).2 h] at this
  have dn : (eup (-a)).natAbs < 2 ^ 256 → (∀ W, Tb W → Calls Tryd.prog 68 #[Iz a] W fun e w' => e = .returned (.tuple #[Iz (-(eup (-a))), .bool true]) ∧ Below W.heap.size W w') ∧
      (∀ W, Tb W → Calls Tryd.prog 71 #[Iz (-(eup (-a)))] W fun e w' => e = .returned (.bool true) ∧ Below W.heap.size W w') := fun h => by
    refine ⟨fun W hW => ?_, fun W hW => ?_⟩
    · have := edown_z a ha W hW
      rwa [Znum_of (by omega)] at this
    · have := exact_z (-(eup (-a))) (by omega) W hW
      rwa [Int.natAbs_neg, (eup_ge na).2 h] at this
  have f1 : exq b.natAbs = true → 0 ≤ cmpv b a → cmpv (eup a) b ≤ 0 := fun he hc => (cmpv_le _ _).2 (eup_le ha hb he ((cmpv_ge _ _).1 hc))
  have f2 : exq b.natAbs = true → cmpv b a ≤ 0 → 0 ≤ cmpv (-(eup (-a))) b := fun he hc => by
    have := eup_le na nb (by rw [enb]; exact he) (by have := (cmpv_le _ _).1 hc; omega)
    exact (cmpv_ge _ _).2 (by omega)
  have i1 : 0 ≤ cmpv (eup a) a := (cmpv_ge _ _).2 (eup_ge ha).1
  have i2 : cmpv (-(eup (-a))) a ≤ 0 := (cmpv_le _ _).2 (by have := (eup_ge na).1; omega)
  by_cases hp : (eup a).natAbs < 2 ^ 256
  · obtain ⟨k1, k11⟩ := up hp
    have k7 := fun W => cmp_z (eup a) b hp hb W
    have k12 := fun W => cmp_z (eup a) a hp ha W
    by_cases hq : (eup (-a)).natAbs < 2 ^ 256
    · obtain ⟨k2, k17⟩ := dn hq
      have hq' : (-(eup (-a))).natAbs < 2 ^ 256 := by omega
      have k8 := fun W => cmp_z (-(eup (-a))) b hq' hb W
      have k18 := fun W => cmp_z (-(eup (-a))) a hq' ha W
      exact near_tt _ _ _ _ _ _ _ _ _ _ _ _ _ _ _ _ _ _ _ _ _ _ _ _ _ _ _ _ _ _ _ _ _ _ _ _ _ _ _ _ (cmpv_three b a) f1 f2 f3 f4 i1 i2 i3 i4 (may_z a ha) (may_z b hb) k1 k2 k3 k4 k5 k6 k9 k10 k13 k14 k15 k16 k7 k11 k12 k8 k17 k18 w hT
    · have k2 : ∀ W, Tb W → Calls Tryd.prog 68 #[Iz a] W fun e w' => e = .returned (.tuple #[Z5, .bool false]) ∧ Below W.heap.size W w' := fun W hW => by
        have := edown_z a ha W hW
        rwa [Znum_Z5 (by omega)] at this
      have g2 : exq b.natAbs = true → 0 < cmpv b a := fun he => by
        have := eup_none na nb hq (by rw [enb]; exact he)
        exact (cmpv_gt _ _).2 (by omega)
      exact near_tf _ _ _ _ _ _ _ _ _ _ _ _ _ _ _ _ _ _ _ _ _ _ _ _ _ _ _ _ _ _ _ _ _ _ _ _ _ _ (cmpv_three b a) f1 g2 f3 f4 i1 i3 i4 (may_z a ha) (may_z b hb) k1 k2 k3 k4 k5 k6 k9 k10 k13 k14 k15 k16 k7 k11 k12 w hT
  · have hq : (eup (-a)).natAbs < 2 ^ 256 := (eup_some ha).resolve_left hp
    obtain ⟨k2, k17⟩ := dn hq
    have hq' : (-(eup (-a))).natAbs < 2 ^ 256 := by omega
    have k8 := fun W => cmp_z (-(eup (-a))) b hq' hb W
    have k18 := fun W => cmp_z (-(eup (-a))) a hq' ha W
    have k1 : ∀ W, Tb W → Calls Tryd.prog 66 #[Iz a] W fun e w' => e = .returned (.tuple #[Z5, .bool false]) ∧ Below W.heap.size W w' := fun W hW => by
      have := exup_z a ha W hW
      rwa [Znum_Z5 hp] at this
    have g1 : exq b.natAbs = true → cmpv b a < 0 := fun he => (cmpv_lt _ _).2 (eup_none ha hb hp he)
    exact near_ft _ _ _ _ _ _ _ _ _ _ _ _ _ _ _ _ _ _ _ _ _ _ _ _ _ _ _ _ _ _ _ _ _ _ _ _ _ _ (cmpv_three b a) g1 f2 f3 f4 i2 i3 i4 (may_z a ha) (may_z b hb) k1 k2 k3 k4 k5 k6 k9 k10 k13 k14 k15 k16 k8 k17 k18 w hT
theorem near_any (g : Bool) (x : Nat) (h : Bool) (y : Nat) (hx : x < 2 ^ 256) (hy : y < 2 ^ 256) (w : World) (hT : Tabs w) :
    Calls Tryd.prog 12 #[I5 g x, I5 h y] w fun e w' => e = .returned (.bool true) ∧ Below w.heap.size w w' := by
  rcases int_or g x with ⟨a, ea, na⟩ | ⟨rfl, rfl⟩
  · rw [ea]
    rcases int_or h y with ⟨b, eb, nb⟩ | ⟨rfl, rfl⟩
    · rw [eb]; exact near_z a b (by omega) (by omega) w hT
    · exact near_no1 _ _ _ _ _ _ _ _ _ _ (may_z a (by omega)) (fun W => may_no W) w hT
  · exact near_no0 _ _ _ _ _ _ _ _ _ _ (fun W => may_no W) w hT

end Go.Proofs.YtbegblkfdnaloaaDoor
