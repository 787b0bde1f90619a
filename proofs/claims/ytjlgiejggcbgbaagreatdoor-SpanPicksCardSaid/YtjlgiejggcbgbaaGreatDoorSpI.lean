/-
  span.Norm, Or, And, Not, Same, Has, All: the contracts, said of which numbers are in.
-/
import Derived.Test.YtjlgiejggcbgbaaGreatDoorSpH
namespace Go.Proofs.YtjlgiejggcbgbaaGreatDoor
open Go.RowKit Go.Shelf
attribute [local go_sem ↓] eql_nat neq_nat eql_int5 neq_int5

/-- A slice that reads as spans that may be. -/
def In9 (w : World) (v : Value) (A : List Sp) : Prop := ∃ la lc bb off, v = .slice la A.length lc ∧ Ls w la (A.map rsp) bb off ∧ A.length ≤ lc ∧ lc ≤ maxLen ∧ (∀ s ∈ A, SpR s) ∧ A.length ≤ 1000
theorem In9.keep {w w' : World} {v : Value} {A : List Sp} (h : In9 w v A) (hb : Below w.heap.size w w') : In9 w' v A := by
  obtain ⟨la, lc, bb, off, h1, h2, h3⟩ := h
  exact ⟨la, lc, bb, off, h1, h2.keep hb, h3⟩
theorem In9.nil (w : World) : In9 w (.slice none 0 0) [] := by
  refine ⟨none, 0, 0, 0, rfl, Ls.nil _ _, Nat.le_refl _, ?_, ?_, ?_⟩
  · unfold maxLen; omega
  · intro s h; cases h
  · exact Nat.zero_le _
/-- A call's answer is a set's normal form, in memory of its own. -/
def Sets (w : World) (f : Int → Bool) (k : Nat) (e : Ending) (w' : World) : Prop := ∃ v, e = .returned v ∧ ∃ P : List (Int × Int), Bs w' w.heap.size v (P.map fun p => rsp (ofSp p)) ∧ IsN P f ∧ P.length ≤ k ∧ Below w.heap.size w w'
theorem bs_in {w' : World} {base : Nat} {v : Value} {P : List (Int × Int)} {f : Int → Bool} (h : Bs w' base v (P.map fun p => rsp (ofSp p))) (hP : IsN P f) (hk : P.length ≤ 1000) : In9 w' v (P.map ofSp) := by
  obtain ⟨la, lc, bb, h1, h2, h3, h4, _⟩ := h.form
  rw [List.length_map] at h1 h3
  exact ⟨la, lc, bb, 0, by rw [h1, List.length_map], by rw [List.map_map]; exact h2, by rw [List.length_map]; exact h3, h4, hP.rng, by rw [List.length_map]; exact hk⟩

theorem may_in {v : Value} {A : List Sp} {w : World} (h : In9 w v A) : Calls Tryz.prog 16 #[v] w fun e w' => e = .returned (.bool true) ∧ Below w.heap.size w w' := by
  obtain ⟨la, lc, bb, off, rfl, h2, h3, h4, h5, h6⟩ := h
  have := smay la lc (A.map rsp) bb off w h2 (rsp_bounds h5)
  rw [mayL_sp h5, decide_eq_true h6, List.length_map] at this
  exact this
theorem sweep_in (f : Bool → Bool → Bool) (gf : Nat) (eg : ∀ args w, (callFunc gf args).run Tryz.prog w = .ok (.enter gf args) w) (hf : ∀ x y W, Calls Tryz.prog gf #[.bool x, .bool y] W fun e w' => e = .returned (.bool (f x y)) ∧ W = w')
    {w : World} {a b : Value} {A B : List Sp} (hA : In9 w a A) (hB : In9 w b B) : Calls Tryz.prog 33 #[a, b, .func (.func gf) #[] #[]] w (Sets w (fun x => f (memS A x) (memS B x)) (1 + A.length + B.length)) := by
  have ma := may_in hA
  have mb := fun W hW => may_in (hB.keep (w' := W) hW)
  obtain ⟨la, lca, bba, offa, rfl, a2, a3, a4, a5, a6⟩ := hA
  obtain ⟨lb, lcb, bbb, offb, rfl, b2, b3, b4, b5, b6⟩ := hB
  refine (sweep_loop f gf eg hf la lca A bba offa lb lcb B bbb offb w a5 b5 a2 b2 a6 b6 ma mb).mono ?_
  rintro e w' ⟨v, rfl, T, hO, ⟨l', hp, hs, rfl⟩, hb⟩
  have hp' : (l'.map edE).Perm (allE A B) := by rw [← allV_eds a5 b5]; exact hp.map edE
  obtain ⟨h1, h2⟩ := sweep_spec f a5 b5 hp' (List.pairwise_map.2 hs)
  exact ⟨v, rfl, _, hO, h1, h2, hb⟩
theorem or_fn (x y : Bool) (W : World) : Calls Tryz.prog 34 #[.bool x, .bool y] W fun e w' => e = .returned (.bool (x || y)) ∧ W = w' := by
  go_enter Tryz.func34, Tryz.ntmps34
  cases x
  all_goals
    go_wp2
    go_ret
    exact ⟨rfl, rfl⟩
theorem not_fn (x y : Bool) (W : World) : Calls Tryz.prog 37 #[.bool x, .bool y] W fun e w' => e = .returned (.bool (!x)) ∧ W = w' := by
  go_enter Tryz.func37, Tryz.ntmps37
  go_wp2
  go_ret
  exact ⟨rfl, rfl⟩
/-- span.Or. -/
theorem or_in {w : World} {a b : Value} {A B : List Sp} (hA : In9 w a A) (hB : In9 w b B) : Calls Tryz.prog 12 #[a, b] w (Sets w (fun x => memS A x || memS B x) (1 + A.length + B.length)) := by
  have K := Lib.hid (sweep_in (fun x y => x || y) 34 (enters_of Tryz.func34 (by kernel_rfl) rfl) or_fn hA hB)
  clear hA hB
  go_enter Tryz.func12, Tryz.ntmps12
  go_wp2_with (go_at_call 33; ((with_reducible refine K.out.mono ?_); rintro e w1 ⟨v, rfl, H1⟩))
  go_ret
  exact ⟨v, rfl, H1⟩
/-- span.Not. -/
theorem not_in {w : World} {a : Value} {A : List Sp} (hA : In9 w a A) : Calls Tryz.prog 14 #[a] w (Sets w (fun x => !memS A x) (1 + A.length)) := by
  have K := Lib.hid (sweep_in (fun x _ => !x) 37 (enters_of Tryz.func37 (by kernel_rfl) rfl) not_fn hA (In9.nil w))
  clear hA
  go_enter Tryz.func14, Tryz.ntmps14
  go_wp2_with (go_at_call 33; ((with_reducible refine K.out.mono ?_); rintro e w1 ⟨v, rfl, H1⟩))
  go_ret
  exact ⟨v, rfl, H1⟩
/-- span.Norm. -/
theorem norm_in {w : World} {a : Value} {A : List Sp} (hA : In9 w a A) : Calls Tryz.prog 36 #[a] w (Sets w (fun x => memS A x) (1 + A.length)) := by
  have K := Lib.hid (or_in hA (In9.nil w))
  clear hA
  go_enter Tryz.func36, Tryz.ntmps36
  go_wp2_with (go_at_call 12; ((with_reducible refine K.out.mono ?_); rintro e w1 ⟨v, rfl, P, H1, H2, H3⟩))
  go_ret
  exact ⟨v, rfl, P, H1, ⟨H2.1, fun x h1 h2 => by rw [H2.2 x h1 h2]; simp [memS]⟩, H3⟩
/-- span.All. -/
theorem all_in (w : World) : Calls Tryz.prog 15 #[] w (Sets w (fun _ => true) 1) := by
  go_enter Tryz.func15, Tryz.ntmps15
  go_wp2
  go_ret
  have hb : Below w.heap.size w (w.alloc (.cells #[.bool false, .bool false, .bool false, .int .u64 0, .int .u64 0, .int .u64 0, .int .u64 0, .bool false, .int .u64 0, .int .u64 0, .int .u64 0, .int .u64 0] 37)) := bal (Below.refl _ _) _
  refine ⟨_, rfl, [(-topM, topM)], ?_, ?_, Nat.le_refl _, hb⟩
  · show Bs _ _ _ [rsp (ofSp (-topM, topM))]
    rw [rsp_all9]
    refine ⟨rfl, .inr ⟨w.heap.size, 1, _, rfl, Nat.le_refl _, heap_alloc_new w _, Nat.le_refl _, by unfold maxLen; omega, rfl, ?_⟩⟩
    show _ = RS.cells _ ++ []
    rw [zero_cells]
    rfl
  · have := topM_pos
    refine ⟨⟨Int.le_refl _, by show -topM ≤ topM; omega, Int.le_refl _, trivial⟩, fun x h1 h2 => ?_⟩
    rw [memP_cons, decide_eq_true h1, decide_eq_true h2]
    rfl
end Go.Proofs.YtjlgiejggcbgbaaGreatDoor
