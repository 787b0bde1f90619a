/-
  entrepotlaw7.JsonLong: what its texts mean. No law's walk.
-/
import Derived.Test.YtocffoemimghhaaGreatDoorGJ5
namespace Go.Proofs.YtocffoemimghhaaGreatDoor
open Go.RowKit Go.Shelf
set_option linter.unusedVariables false

theorem usz_asc {b : Nat} (h : b < 128) : usz b = 1 := by unfold usz; simp; omega
theorem uown_asc {b : Nat} (h : b < 128) : uown b = b := by unfold uown; simp; omega
theorem udec_asc {c : UInt8} (h : c.toNat < 128) (t : List UInt8) : udec (c :: t) = some (uown c.toNat, 1) := by
  rw [show udec (c :: t) = (if usz c.toNat = 0 then none else match uacc (uown c.toNat) (usz c.toNat - 1) t with | none => none | some d => if ulng d = usz c.toNat then some (d, usz c.toNat) else none) from rfl, usz_asc h, if_neg (by decide)]
  have : ulng (uown c.toNat) = 1 := by rw [uown_asc h]; unfold ulng; (repeat' split) <;> omega
  simp [uacc, this]
theorem unc_asc {c : UInt8} (h : c.toNat < 128) (t : List UInt8) : unc (c :: t) = (c.toNat : Int) ∧ unn (c :: t) = 1 := by
  unfold unc unn
  rw [if_neg (by simp), if_neg (by simp), udec_asc h t, uown_asc h]
  exact ⟨rfl, rfl⟩
theorem uval_x : ∀ n : Nat, uval (List.replicate n 120) = true := by
  intro n
  induction n with
  | zero => exact uval_nil
  | succ n ih =>
    rw [List.replicate_succ, uval_cons (by simp), (unc_asc (c := 120) (by decide) _).2, udec_asc (c := 120) (by decide)]
    simpa using ih
theorem jtx_x : ∀ (n : Nat) (acc : List UInt8), jtx (n + 1) (List.replicate n 120 ++ [34]) acc = some (acc ++ List.replicate n 120, []) := by
  intro n
  induction n with
  | zero =>
    intro acc
    rw [List.replicate_zero, List.nil_append, List.append_nil]
    unfold jtx
    obtain ⟨h1, h2⟩ := unc_asc (c := 34) (by decide) []
    rw [h1, h2, if_neg (by decide), if_pos (by decide)]
    rfl
  | succ n ih =>
    intro acc
    rw [List.replicate_succ, List.cons_append]
    conv => lhs; unfold jtx
    obtain ⟨h1, h2⟩ := unc_asc (c := 120) (by decide) (List.replicate n 120 ++ [34])
    rw [h1, h2, if_neg (by decide)]
    show (if ([120] : List UInt8) = [34] then _ else if ([120] : List UInt8) = [92] then _ else jtx (n + 1) (List.replicate n 120 ++ [34]) (acc ++ [120])) = _
    rw [if_neg (by decide), if_neg (by decide), ih]
    simp
/-- A text of n letters between quotes. -/
def qx (n : Nat) : List UInt8 := 34 :: (List.replicate n 120 ++ [34])
def tx (n : Nat) : VT := lf 5 false 0 0 (str (List.replicate n 120))
theorem jv_qx (n : Nat) : JV (qx n) (tx n) [] false false := by
  refine .txt (t := List.replicate n 120 ++ [34]) (n + 1) ?_ ?_
  · unfold qx jskip
    rw [List.dropWhile_cons, if_neg (by decide)]
  · rw [jtx_x n []]
    rfl
theorem lf_nodes (k : Int) (g : Bool) (x : Nat) (y : Int) (s : ByteArray) : (lf k g x y s).nodes = 1 := by unfold lf; rw [VT.nodes_mk]; rfl
theorem lf_depth (k : Int) (g : Bool) (x : Nat) (y : Int) (s : ByteArray) : (lf k g x y s).depth = 1 := by unfold lf; rw [VT.depth_mk]; rfl
theorem lf_has (p : VT → Bool) (k : Int) (g : Bool) (x : Nat) (y : Int) (s : ByteArray) : hasT p (lf k g x y s) = p (lf k g x y s) := by rw [hasT_mk]; simp [lf]
theorem lf_may (k : Int) (g : Bool) (x : Nat) (y : Int) (s : ByteArray) : mayN (lf k g x y s) = if overT (lf k g x y s) then 8 else if wrongT (lf k g x y s) then 1 else 0 := by
  unfold mayN
  rw [lf_depth, if_neg (by omega), lf_has, lf_has]
theorem lf_small (k : Int) (g : Bool) (x : Nat) (y : Int) (s : ByteArray) (h : s.size ≤ 100000) : (lf k g x y s).Every SmallO := .mk _ _ ⟨h, fun s h => by cases h⟩ (fun t h => by cases h)
theorem tx_over (n : Nat) : overT (tx n) = decide (4096 < n) := by
  have h : ∀ (o : Own) (m : Nat), o.kind = 5 → overB o m = decide (4096 < o.text.size) := fun o m h => by
    unfold overB
    rw [if_pos (Or.inl h)]
  refine (h (tx n).o (tx n).kids.length rfl).trans ?_
  show decide (4096 < (str (List.replicate n 120)).size) = _
  rw [str_size, List.length_replicate]
theorem tx_wrong (n : Nat) : wrongT (tx n) = false := by
  show (!(outB ⟨5, false, 0, 0, str (List.replicate n 120), none, 0, none, 0, []⟩ 0 && restB ⟨5, false, 0, 0, str (List.replicate n 120), none, 0, none, 0, []⟩ 0)) = false
  have h1 : outB ⟨5, false, 0, 0, str (List.replicate n 120), none, 0, none, 0, []⟩ 0 = true := by
    unfold outB
    simp only
    rw [if_neg (by omega), if_neg (by omega), if_pos (by first | trivial | simp), eqO_parts]
    refine ⟨rfl, ?_, rfl, rfl, rfl, rfl⟩
    simp only [lb_zero]
    simp [eq5, eq4]
  have h2 : restB ⟨5, false, 0, 0, str (List.replicate n 120), none, 0, none, 0, []⟩ 0 = true := by
    unfold restB
    simp only
    rw [if_neg (by omega), if_neg (by omega), if_neg (by omega), if_neg (by omega), if_pos trivial, str_data]
    exact uval_x n
  rw [h1, h2]; rfl
theorem tx_may (n : Nat) : mayN (tx n) = if 4096 < n then 8 else 0 := by
  unfold tx
  rw [lf_may]
  have h1 := tx_over n
  have h2 := tx_wrong n
  unfold tx at h1 h2
  rw [h1, h2]
  by_cases h : 4096 < n
  · rw [decide_eq_true h, if_pos rfl, if_pos h]
  · rw [decide_eq_false h, if_neg h]; rfl
/-- 1. and n noughts. -/
def on (n : Nat) : List UInt8 := 49 :: 46 :: List.replicate n 48
theorem on_nsz396 : (on 396).take (nsz (on 396)) = on 396 ∧ (on 396).drop (nsz (on 396)) = [] := by decide +kernel
theorem on_nsz397 : (on 397).take (nsz (on 397)) = on 397 ∧ (on 397).drop (nsz (on 397)) = [] := by decide +kernel
theorem on_nsz398 : (on 398).take (nsz (on 398)) = on 398 ∧ (on 398).drop (nsz (on 398)) = [] := by decide +kernel
theorem on_nsz399 : (on 399).take (nsz (on 399)) = on 399 ∧ (on 399).drop (nsz (on 399)) = [] := by decide +kernel
theorem on_nsz400 : (on 400).take (nsz (on 400)) = on 400 ∧ (on 400).drop (nsz (on 400)) = [] := by decide +kernel
theorem on_d396 : dpans (on 396) = .tuple #[VV 3 false 1 0, .int .i64 0] := by
  rw [show dpans (on 396) = dpv false 1 0 from by
    unfold dpans
    rw [if_neg (by decide +kernel), show rd (on 396) = some (false, [49], 0) from by decide +kernel]
    simp only
    rw [if_neg (by decide), show parseN (str [49]) = some 1 from by decide +kernel]]
  unfold dpv
  rw [if_pos (by decide), if_pos (by decide +kernel), show (1 : Nat) * 10 ^ (0 : Int).toNat = 1 from by decide +kernel]
theorem jv_on396 : JV (on 396) (lf 3 false 1 0 ⟨#[]⟩) [] false false := by
  have h := JV.num (l := on 396) (t := 46 :: List.replicate 396 48) (c := 49) (k := 3) (g := false) (x := 1) (y := 0) (by decide +kernel) (by decide +kernel) (Or.inl rfl) (by decide) (by omega) (by
    show dpans ((on 396).take (nsz (on 396))) = _
    rw [on_nsz396.1]
    exact on_d396)
  rw [show ((49 :: 46 :: List.replicate 396 48).drop (nsz (49 :: 46 :: List.replicate 396 48)) : List UInt8) = [] from on_nsz396.2] at h
  exact h
theorem on_d397 : dpans (on 397) = .tuple #[VV 3 false 1 0, .int .i64 0] := by
  rw [show dpans (on 397) = dpv false 1 0 from by
    unfold dpans
    rw [if_neg (by decide +kernel), show rd (on 397) = some (false, [49], 0) from by decide +kernel]
    simp only
    rw [if_neg (by decide), show parseN (str [49]) = some 1 from by decide +kernel]]
  unfold dpv
  rw [if_pos (by decide), if_pos (by decide +kernel), show (1 : Nat) * 10 ^ (0 : Int).toNat = 1 from by decide +kernel]
theorem jv_on397 : JV (on 397) (lf 3 false 1 0 ⟨#[]⟩) [] false false := by
  have h := JV.num (l := on 397) (t := 46 :: List.replicate 397 48) (c := 49) (k := 3) (g := false) (x := 1) (y := 0) (by decide +kernel) (by decide +kernel) (Or.inl rfl) (by decide) (by omega) (by
    show dpans ((on 397).take (nsz (on 397))) = _
    rw [on_nsz397.1]
    exact on_d397)
  rw [show ((49 :: 46 :: List.replicate 397 48).drop (nsz (49 :: 46 :: List.replicate 397 48)) : List UInt8) = [] from on_nsz397.2] at h
  exact h
theorem on_d398 : dpans (on 398) = .tuple #[VV 3 false 1 0, .int .i64 0] := by
  rw [show dpans (on 398) = dpv false 1 0 from by
    unfold dpans
    rw [if_neg (by decide +kernel), show rd (on 398) = some (false, [49], 0) from by decide +kernel]
    simp only
    rw [if_neg (by decide), show parseN (str [49]) = some 1 from by decide +kernel]]
  unfold dpv
  rw [if_pos (by decide), if_pos (by decide +kernel), show (1 : Nat) * 10 ^ (0 : Int).toNat = 1 from by decide +kernel]
theorem jv_on398 : JV (on 398) (lf 3 false 1 0 ⟨#[]⟩) [] false false := by
  have h := JV.num (l := on 398) (t := 46 :: List.replicate 398 48) (c := 49) (k := 3) (g := false) (x := 1) (y := 0) (by decide +kernel) (by decide +kernel) (Or.inl rfl) (by decide) (by omega) (by
    show dpans ((on 398).take (nsz (on 398))) = _
    rw [on_nsz398.1]
    exact on_d398)
  rw [show ((49 :: 46 :: List.replicate 398 48).drop (nsz (49 :: 46 :: List.replicate 398 48)) : List UInt8) = [] from on_nsz398.2] at h
  exact h
theorem jv_on399 : JV (on 399) (lf 1 false 0 0 ⟨#[]⟩) [] true false := by
  have h := JV.lng (l := on 399) (t := 46 :: List.replicate 399 48) (c := 49) (by decide +kernel) (by decide +kernel) (by
    show dpans ((on 399).take (nsz (on 399))) = _
    rw [on_nsz399.1]
    unfold dpans
    rw [if_pos (by decide +kernel)])
  rw [show ((49 :: 46 :: List.replicate 399 48).drop (nsz (49 :: 46 :: List.replicate 399 48)) : List UInt8) = [] from on_nsz399.2] at h
  exact h
theorem jv_on400 : JV (on 400) (lf 1 false 0 0 ⟨#[]⟩) [] true false := by
  have h := JV.lng (l := on 400) (t := 46 :: List.replicate 400 48) (c := 49) (by decide +kernel) (by decide +kernel) (by
    show dpans ((on 400).take (nsz (on 400))) = _
    rw [on_nsz400.1]
    unfold dpans
    rw [if_pos (by decide +kernel)])
  rw [show ((49 :: 46 :: List.replicate 400 48).drop (nsz (49 :: 46 :: List.replicate 400 48)) : List UInt8) = [] from on_nsz400.2] at h
  exact h
theorem one_may7 : mayN (lf 3 false 1 0 ⟨#[]⟩) = 0 := by
  rw [lf_may]
  decide +kernel
theorem null_may7 : mayN (lf 1 false 0 0 ⟨#[]⟩) = 0 := by
  rw [lf_may]
  decide +kernel
end Go.Proofs.YtocffoemimghhaaGreatDoor
