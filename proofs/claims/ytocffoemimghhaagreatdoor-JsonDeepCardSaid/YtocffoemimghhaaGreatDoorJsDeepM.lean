/-
  entrepotlaw7.JsonDeep: arrays in arrays, objects in objects, as texts and as trees.
-/
import Derived.Test.YtocffoemimghhaaGreatDoorJsTxtM
import Derived.Test.YtocffoemimghhaaGreatDoorJsObj
import Derived.Test.YtocffoemimghhaaGreatDoorJsCut
namespace Go.Proofs.YtocffoemimghhaaGreatDoor
open Go.RowKit Go.Shelf Go.Maps
set_option linter.unusedVariables false

/-- k + 1 arrays in one another, R behind them. -/
def aT : Nat → List UInt8 → List UInt8
  | 0, R => 91 :: 93 :: R
  | k + 1, R => 91 :: aT k (93 :: R)
def nA : Nat → VT
  | 0 => arrE []
  | k + 1 => arrE [nA k]
/-- k objects in one another around a nought, R behind them. -/
def oT : Nat → List UInt8 → List UInt8
  | 0, R => 48 :: R
  | k + 1, R => 123 :: 34 :: 97 :: 34 :: 58 :: oT k (125 :: R)
def nO : Nat → VT
  | 0 => lf 3 false 0 0 ⟨#[]⟩
  | k + 1 => objE [97] (nO k)
theorem aT_len : ∀ (k : Nat) (R : List UInt8), (aT k R).length = 2 * k + 2 + R.length := by
  intro k
  induction k with
  | zero => intro R; show R.length + 1 + 1 = _; omega
  | succ k ih => intro R; show (aT k (93 :: R)).length + 1 = _; rw [ih, List.length_cons]; omega
theorem oT_len : ∀ (k : Nat) (R : List UInt8), (oT k R).length = 6 * k + 1 + R.length := by
  intro k
  induction k with
  | zero => intro R; show R.length + 1 = _; omega
  | succ k ih => intro R; show (oT k (125 :: R)).length + 1 + 1 + 1 + 1 + 1 = _; rw [ih, List.length_cons]; omega
theorem skip_no {c : UInt8} {t : List UInt8} (h : ¬ (c = 32 ∨ c = 9 ∨ c = 10 ∨ c = 13)) : jskip (c :: t) = c :: t := by
  unfold jskip
  rw [List.dropWhile_cons, if_neg]
  intro hb
  apply h
  unfold jblank at hb
  simpa [or_assoc] using hb
theorem aT_head (k : Nat) (R : List UInt8) : ∃ t, aT k R = 91 :: t := by cases k <;> exact ⟨_, rfl⟩
theorem jv_aT : ∀ (k : Nat) (R : List UInt8), JV (aT k R) (nA k) R false false := by
  intro k
  induction k with
  | zero => intro R; exact .arr0 (t := 93 :: R) (skip_no (by decide)) (skip_no (by decide))
  | succ k ih =>
    intro R
    obtain ⟨t, ht⟩ := aT_head k (93 :: R)
    have hs : jskip (aT k (93 :: R)) = aT k (93 :: R) := by rw [ht]; exact skip_no (by decide)
    refine .arr (t := aT k (93 :: R)) (ks := [nA k]) (skip_no (by decide)) (by rw [hs, ht]; exact pre_no (by decide)) ?_
    refine .last (r1 := 93 :: R) (ih _) ?_ (skip_no (by decide))
    rw [hs, aT_len]
    omega
theorem nA_depth : ∀ k, (nA k).depth = k + 1 := by
  intro k
  induction k with
  | zero => unfold nA arrE; rw [VT.depth_mk]; rfl
  | succ k ih => show (arrE [nA k]).depth = _; unfold arrE; rw [VT.depth_mk]; simp [ih]; omega
theorem nA_nodes : ∀ k, (nA k).nodes = k + 1 := by
  intro k
  induction k with
  | zero => unfold nA arrE; rw [VT.nodes_mk]; rfl
  | succ k ih => show (arrE [nA k]).nodes = _; unfold arrE; rw [VT.nodes_mk]; simp [ih]; omega
theorem nO_depth : ∀ k, (nO k).depth = k + 1 := by
  intro k
  induction k with
  | zero => unfold nO; rw [lf_depth]
  | succ k ih => show (objE [97] (nO k)).depth = _; unfold objE; rw [VT.depth_mk]; simp [ih]; omega
theorem nO_nodes : ∀ k, (nO k).nodes = k + 1 := by
  intro k
  induction k with
  | zero => unfold nO; rw [lf_nodes]
  | succ k ih => show (objE [97] (nO k)).nodes = _; unfold objE; rw [VT.nodes_mk]; simp [ih]; omega
theorem nA_small : ∀ k, (nA k).Every SmallO := by
  intro k
  induction k with
  | zero => exact .mk _ _ ⟨Nat.zero_le _, fun s h => by cases h⟩ (fun t h => by cases h)
  | succ k ih => exact .mk _ _ ⟨Nat.zero_le _, fun s h => by cases h⟩ (fun t h => by rw [List.mem_singleton.1 h]; exact ih)
theorem nO_small : ∀ k, (nO k).Every SmallO := by
  intro k
  induction k with
  | zero => exact lf_small _ _ _ _ _ (by decide)
  | succ k ih => exact .mk _ _ ⟨Nat.zero_le _, fun s h => by rw [List.mem_singleton.1 h]; show (str [97]).size ≤ _; rw [str_size]; decide⟩ (fun t h => by rw [List.mem_singleton.1 h]; exact ih)
theorem has_one {p : VT → Bool} {o : Own} {T : VT} : hasT p (.mk o [T]) = (p (.mk o [T]) || hasT p T) := by rw [hasT_mk]; simp
theorem nA_over : ∀ k, hasT overT (nA k) = false := by
  intro k
  induction k with
  | zero => show hasT overT (arrE []) = false; unfold arrE; rw [hasT_mk]; decide +kernel
  | succ k ih =>
    show hasT overT (arrE [nA k]) = false
    unfold arrE
    rw [has_one, ih, Bool.or_false]
    show overB ⟨7, false, 0, 0, ⟨#[]⟩, none, 0, none, 0, []⟩ 1 = false
    decide +kernel
theorem nA_wrong : ∀ k, hasT wrongT (nA k) = false := by
  intro k
  induction k with
  | zero => show hasT wrongT (arrE []) = false; unfold arrE; rw [hasT_mk]; decide +kernel
  | succ k ih =>
    show hasT wrongT (arrE [nA k]) = false
    unfold arrE
    rw [has_one, ih, Bool.or_false]
    show (!ownB ⟨7, false, 0, 0, ⟨#[]⟩, none, 0, none, 0, []⟩ 1) = false
    decide +kernel
theorem nO_over : ∀ k, hasT overT (nO k) = false := by
  intro k
  induction k with
  | zero => show hasT overT (lf 3 false 0 0 ⟨#[]⟩) = false; rw [lf_has]; decide +kernel
  | succ k ih =>
    show hasT overT (objE [97] (nO k)) = false
    unfold objE
    rw [has_one, ih, Bool.or_false]
    show overB ⟨8, false, 0, 0, ⟨#[]⟩, none, 0, none, 0, [str [97]]⟩ 1 = false
    decide +kernel
theorem nO_wrong : ∀ k, hasT wrongT (nO k) = false := by
  intro k
  induction k with
  | zero => show hasT wrongT (lf 3 false 0 0 ⟨#[]⟩) = false; rw [lf_has]; decide +kernel
  | succ k ih =>
    show hasT wrongT (objE [97] (nO k)) = false
    unfold objE
    rw [has_one, ih, Bool.or_false]
    show (!ownB ⟨8, false, 0, 0, ⟨#[]⟩, none, 0, none, 0, [str [97]]⟩ 1) = false
    decide +kernel
theorem nA_may (k : Nat) : mayN (nA k) = if 16 < k + 1 then 4 else 0 := by
  unfold mayN
  rw [nA_depth, nA_over, nA_wrong]
  rfl
theorem nO_may (k : Nat) : mayN (nO k) = if 16 < k + 1 then 4 else 0 := by
  unfold mayN
  rw [nO_depth, nO_over, nO_wrong]
  rfl
theorem td0 : dpans [48] = .tuple #[VV 3 false 0 0, .int .i64 0] := by
  unfold dpans
  rw [if_neg (by decide), show rd [48] = some (false, [], 1) from by decide +kernel]
  rfl
theorem nsz0 {R : List UInt8} (h : R = [] ∨ ∃ t, R = 125 :: t) : nsz (48 :: R) = 1 := by
  rcases h with rfl | ⟨t, rfl⟩
  · decide +kernel
  · have e : jnum (48 :: 125 :: t) = 125 :: t := rfl
    have f : figs (tp1 45 (48 :: 125 :: t)) ≠ [] := by
      show figs (48 :: 125 :: t) ≠ []
      unfold figs
      rw [List.takeWhile_cons, if_pos (by decide)]
      simp
    unfold nsz
    rw [if_neg f, e]
    simp
theorem jtx_a (R : List UInt8) : jtx 2 (97 :: 34 :: R) [] = some ([97], R) := by
  obtain ⟨h1, h2⟩ := unc_asc (c := 97) (by decide) (34 :: R)
  obtain ⟨h3, h4⟩ := unc_asc (c := 34) (by decide) R
  rw [jtx_succ, h1, h2, if_neg (by decide)]
  show (if ([97] : List UInt8) = [34] then _ else if ([97] : List UInt8) = [92] then _ else jtx 1 (34 :: R) ([] ++ [97])) = _
  rw [if_neg (by decide), if_neg (by decide), jtx_succ, h3, h4, if_neg (by decide)]
  show (if ([34] : List UInt8) = [34] then some ([] ++ [97], R) else _) = _
  rw [if_pos rfl]
  rfl
theorem jn_a (r : List UInt8) : JN (34 :: 97 :: 34 :: 58 :: r) [97] r := ⟨2, 97 :: 34 :: 58 :: r, 58 :: r, skip_no (by decide), jtx_a _, skip_no (by decide)⟩
end Go.Proofs.YtocffoemimghhaaGreatDoor
