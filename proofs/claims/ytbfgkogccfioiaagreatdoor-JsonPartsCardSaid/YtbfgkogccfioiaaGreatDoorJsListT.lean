/-
  Values as an array, values and names as a map: what they are, that they may be, what their text is. No walk.
-/
import Derived.Test.YtbfgkogccfioiaaGreatDoorGJ2
import Derived.Test.YtbfgkogccfioiaaGreatDoorValFew
namespace Go.Proofs.YtbfgkogccfioiaaGreatDoor
open Go.RowKit Go.Shelf
set_option linter.unusedVariables false

/-- An array of values. -/
def listP (la : Option Addr) (lc : Nat) (kids : List VT) : VT := .mk ⟨7, false, 0, 0, ⟨#[]⟩, la, lc, none, 0, []⟩ kids
theorem listP_in {la : Option Addr} {lc : Nat} {kids : List VT} {w : World} {bb off : Nat} (hK : Kids w la kids bb off) (h1 : kids.length ≤ lc) (h2 : lc ≤ maxLen) : (listP la lc kids).In w :=
  .mk _ _ ⟨⟨by show _ ≤ (7 : Int); omega, by show (7 : Int) ≤ _; omega⟩, by show 0 < _; omega, ⟨Int.le_refl _, by show (0 : Int) ≤ _; omega⟩, Nat.zero_le _, ⟨h1, h2⟩, ⟨Nat.le_refl _, Nat.zero_le _⟩, fun s h => by cases h⟩
    ⟨0, 0, fun h => absurd h (by simp), fun i s h => by simp at h⟩ ⟨bb, off, hK.la, hK.cells⟩ hK.ins
theorem listP_val (la : Option Addr) (lc : Nat) (kids : List VT) : (listP la lc kids).val = V10 7 false 0 0 0 0 0 ⟨#[]⟩ la kids.length lc none 0 0 := by
  show V10 7 false (lb 0 0) (lb 1 0) (lb 2 0) (lb 3 0) 0 ⟨#[]⟩ la kids.length lc none 0 0 = _
  simp only [lb_zero]
theorem eq5_same5 (g : Bool) (a0 a1 a2 a3 : Int) : eq5 g a0 a1 a2 a3 g a0 a1 a2 a3 = true := by simp [eq5, eq4]
theorem listP_q {la : Option Addr} {lc : Nat} {kids : List VT} {w : World} {bb off : Nat} (hT : Tb w) (hK : Kids w la kids bb off) (h1 : kids.length ≤ lc) (h2 : lc ≤ maxLen) (hf : ∀ t ∈ kids, fewOk t = true) : Qv (listP la lc kids) w :=
  ⟨listP_in hK h1 h2, hT, .mk _ _ ⟨Nat.zero_le _, fun s h => by cases h⟩ (fun t h => by
    obtain ⟨i, hi⟩ := List.getElem?_of_mem h
    exact (few_q (hf t h) (hK.ins i t hi) hT).1.small)⟩
theorem sum_le {l : List Nat} {c : Nat} (h : ∀ x ∈ l, x ≤ c) : l.sum ≤ c * l.length := by
  induction l with
  | nil => simp
  | cons a l ih =>
    rw [List.sum_cons, List.length_cons, Nat.mul_add, Nat.mul_one]
    have h1 := h a (by simp)
    have h2 := ih fun x hx => h x (by simp [hx])
    omega
theorem listP_nodes {la : Option Addr} {lc : Nat} {kids : List VT} (h : kids.length ≤ 20) (hf : ∀ t ∈ kids, t.nodes ≤ 400) : (listP la lc kids).nodes ≤ 10000 := by
  unfold listP
  rw [VT.nodes_mk]
  have := sum_le (l := kids.map VT.nodes) (c := 400) fun x hx => by
    obtain ⟨t, ht, rfl⟩ := List.mem_map.1 hx
    exact hf t ht
  rw [List.length_map] at this
  omega
theorem has_no8 {p : VT → Bool} {o : Own} {kids : List VT} (h0 : p (.mk o kids) = false) (h : ∀ t ∈ kids, hasT p t = false) : hasT p (.mk o kids) = false := by
  rw [hasT_mk, h0, Bool.false_or, List.any_eq_false]
  intro t ht
  rw [h t ht]
  simp
theorem may_parts {T : VT} (h : mayN T = 0) : T.depth ≤ 16 ∧ hasT overT T = false ∧ hasT wrongT T = false := by
  unfold mayN at h
  split at h
  · cases h
  · split at h
    · cases h
    · split at h
      · cases h
      · rename_i h1 h2 h3
        exact ⟨by omega, by simpa using h2, by simpa using h3⟩
theorem may_of {T : VT} (h1 : T.depth ≤ 16) (h2 : hasT overT T = false) (h3 : hasT wrongT T = false) : mayN T = 0 := by
  unfold mayN
  rw [if_neg (by omega), h2, h3]
  rfl
theorem over7_no {o : Own} {n : Nat} (h : o.kind = 7) (hn : n ≤ 1000) : overB o n = false := by
  unfold overB
  rw [if_neg (by omega), if_pos h]
  exact decide_eq_false (by omega)
theorem listP_may {la : Option Addr} {lc : Nat} {kids : List VT} (hn : kids.length ≤ 1000) (h : ∀ t ∈ kids, mayN t = 0 ∧ t.depth ≤ 15) : mayN (listP la lc kids) = 0 := by
  refine may_of ?_ (has_no8 ?_ fun t ht => (may_parts (h t ht).1).2.1) (has_no8 ?_ fun t ht => (may_parts (h t ht).1).2.2)
  · unfold listP
    rw [VT.depth_mk]
    have : (kids.map VT.depth).foldl max 0 ≤ 15 := foldl_max_le (Nat.zero_le _) fun x hx => by
      obtain ⟨t, ht, rfl⟩ := List.mem_map.1 hx
      exact (h t ht).2
    omega
  · exact over7_no rfl hn
  · show (!ownB ⟨7, false, 0, 0, ⟨#[]⟩, la, lc, none, 0, []⟩ kids.length) = false
    have h1 : ownB ⟨7, false, 0, 0, ⟨#[]⟩, la, lc, none, 0, []⟩ kids.length = true := by
      unfold ownB
      rw [Bool.and_eq_true]
      constructor
      · unfold outB
        simp only
        rw [if_neg (by omega), if_neg (by omega), if_neg (by omega), if_pos trivial]
        rw [eqO_parts]
        refine ⟨rfl, ?_, rfl, rfl, rfl, rfl⟩
        simp only [lb_zero]
        exact eq5_same5 _ _ _ _ _
      · unfold restB
        rw [if_pos (by show (7 : Int) = 1 ∨ (7 : Int) = 6 ∨ (7 : Int) = 7; omega)]
    rw [h1]; rfl
theorem listP_enc (la : Option Addr) (lc : Nat) (kids : List VT) : jencT (listP la lc kids) = [91] ++ (jpcs (fun _ => []) (kids.map jencT)).flatten ++ [93] := by
  unfold listP
  rw [jencT_mk]
  exact jO_7 rfl
theorem listP_json {la : Option Addr} {lc : Nat} {kids : List VT} (h : ∀ t ∈ kids, hasT notJsonT t = false) : hasT notJsonT (listP la lc kids) = false := has_no8 rfl h
/-- A map of values. -/
def mapP (la : Option Addr) (lc : Nat) (ka : Option Addr) (kc : Nat) (keys : List ByteArray) (kids : List VT) : VT := .mk ⟨8, false, 0, 0, ⟨#[]⟩, la, lc, ka, kc, keys⟩ kids
theorem mapP_in {la : Option Addr} {lc : Nat} {ka : Option Addr} {kc : Nat} {keys : List ByteArray} {kids : List VT} {w : World} {bb off : Nat} (hK : Kids w la kids bb off) (h1 : kids.length ≤ lc) (h2 : lc ≤ maxLen) (hk : KeysAt w ka keys) (h3 : keys.length ≤ kc) (h4 : kc ≤ maxLen) (hs : ∀ s ∈ keys, s.size ≤ 100000) : (mapP la lc ka kc keys kids).In w :=
  .mk _ _ ⟨⟨by show _ ≤ (8 : Int); omega, by show (8 : Int) ≤ _; omega⟩, by show 0 < _; omega, ⟨Int.le_refl _, by show (0 : Int) ≤ _; omega⟩, Nat.zero_le _, ⟨h1, h2⟩, ⟨h3, h4⟩, fun s h => by have := hs s h; unfold maxLen; omega⟩
    hk ⟨bb, off, hK.la, hK.cells⟩ hK.ins
theorem mapP_val (la : Option Addr) (lc : Nat) (ka : Option Addr) (kc : Nat) (keys : List ByteArray) (kids : List VT) : (mapP la lc ka kc keys kids).val = V10 8 false 0 0 0 0 0 ⟨#[]⟩ la kids.length lc ka keys.length kc := by
  show V10 8 false (lb 0 0) (lb 1 0) (lb 2 0) (lb 3 0) 0 ⟨#[]⟩ la kids.length lc ka keys.length kc = _
  simp only [lb_zero]
theorem mapP_q {la : Option Addr} {lc : Nat} {ka : Option Addr} {kc : Nat} {keys : List ByteArray} {kids : List VT} {w : World} {bb off : Nat} (hT : Tb w) (hK : Kids w la kids bb off) (h1 : kids.length ≤ lc) (h2 : lc ≤ maxLen) (hk : KeysAt w ka keys) (h3 : keys.length ≤ kc) (h4 : kc ≤ maxLen) (hs : ∀ s ∈ keys, s.size ≤ 100000) (hf : ∀ t ∈ kids, fewOk t = true) : Qv (mapP la lc ka kc keys kids) w :=
  ⟨mapP_in hK h1 h2 hk h3 h4 hs, hT, .mk _ _ ⟨Nat.zero_le _, hs⟩ (fun t h => by
    obtain ⟨i, hi⟩ := List.getElem?_of_mem h
    exact (few_q (hf t h) (hK.ins i t hi) hT).1.small)⟩
theorem mapP_nodes {la : Option Addr} {lc : Nat} {ka : Option Addr} {kc : Nat} {keys : List ByteArray} {kids : List VT} (h : kids.length ≤ 20) (hf : ∀ t ∈ kids, t.nodes ≤ 400) : (mapP la lc ka kc keys kids).nodes ≤ 10000 := by
  unfold mapP
  rw [VT.nodes_mk]
  have := sum_le (l := kids.map VT.nodes) (c := 400) fun x hx => by
    obtain ⟨t, ht, rfl⟩ := List.mem_map.1 hx
    exact hf t ht
  rw [List.length_map] at this
  omega
/-- The first n of the letters a to e, each as a name. -/
def jnm (n : Nat) : List ByteArray := (List.range n).map fun i => ⟨#[UInt8.ofNat (97 + i)]⟩
theorem jnm_len (n : Nat) : (jnm n).length = n := by unfold jnm; simp
theorem jnm_next (n : Nat) : jnm (n + 1) = jnm n ++ [⟨#[UInt8.ofNat (97 + n)]⟩] := by unfold jnm; rw [List.range_succ, List.map_append]; rfl
theorem jnm_small (n : Nat) : ∀ s ∈ jnm n, s.size ≤ 1 := by
  intro s hs
  obtain ⟨i, _, rfl⟩ := List.mem_map.1 hs
  exact Nat.le_refl _
theorem jnm_names {n : Nat} (h : n ≤ 5) : namesB (jnm n) = true := by
  rcases (show n = 0 ∨ n = 1 ∨ n = 2 ∨ n = 3 ∨ n = 4 ∨ n = 5 by omega) with rfl | rfl | rfl | rfl | rfl | rfl <;> decide +kernel
theorem over8_no {o : Own} {n : Nat} (h : o.kind = 8) (hn : n ≤ 1000) (hk : o.keys.length ≤ 1000) (hs : ∀ s ∈ o.keys, s.size ≤ 4096) : overB o n = false := by
  unfold overB
  rw [if_neg (by omega), if_neg (by omega), if_pos h, decide_eq_false (by omega), Bool.false_or, List.any_eq_false]
  intro s hs'
  have := hs s hs'
  simp
  omega
theorem mapP_may {la : Option Addr} {lc : Nat} {ka : Option Addr} {kc : Nat} {n : Nat} {kids : List VT} (hn : kids.length = n) (h5 : n ≤ 5) (h : ∀ t ∈ kids, mayN t = 0 ∧ t.depth ≤ 15) : mayN (mapP la lc ka kc (jnm n) kids) = 0 := by
  refine may_of ?_ (has_no8 ?_ fun t ht => (may_parts (h t ht).1).2.1) (has_no8 ?_ fun t ht => (may_parts (h t ht).1).2.2)
  · unfold mapP
    rw [VT.depth_mk]
    have : (kids.map VT.depth).foldl max 0 ≤ 15 := foldl_max_le (Nat.zero_le _) fun x hx => by
      obtain ⟨t, ht, rfl⟩ := List.mem_map.1 hx
      exact (h t ht).2
    omega
  · exact over8_no rfl (by show kids.length ≤ 1000; omega) (by show (jnm n).length ≤ 1000; rw [jnm_len]; omega) (fun s hs => by have := jnm_small n s hs; omega)
  · show (!ownB ⟨8, false, 0, 0, ⟨#[]⟩, la, lc, ka, kc, jnm n⟩ kids.length) = false
    have h1 : ownB ⟨8, false, 0, 0, ⟨#[]⟩, la, lc, ka, kc, jnm n⟩ kids.length = true := by
      unfold ownB
      rw [Bool.and_eq_true]
      constructor
      · unfold outB
        simp only
        rw [if_neg (by omega), if_neg (by omega), if_neg (by omega), if_neg (by omega), if_pos trivial]
        rw [eqO_parts]
        refine ⟨rfl, ?_, rfl, rfl, rfl, rfl⟩
        simp only [lb_zero]
        exact eq5_same5 _ _ _ _ _
      · unfold restB
        simp only
        rw [if_neg (by omega), if_neg (by omega), if_neg (by omega), if_neg (by omega), if_neg (by omega), if_pos trivial, jnm_len, hn, jnm_names h5]
        simp
    rw [h1]; rfl
theorem mapP_enc (la : Option Addr) (lc : Nat) (ka : Option Addr) (kc : Nat) (keys : List ByteArray) (kids : List VT) : jencT (mapP la lc ka kc keys kids) = [123] ++ (jpcs (jkey keys) (kids.map jencT)).flatten ++ [125] := by
  unfold mapP
  rw [jencT_mk]
  exact jO_8 rfl
theorem mapP_json {la : Option Addr} {lc : Nat} {ka : Option Addr} {kc : Nat} {keys : List ByteArray} {kids : List VT} (h : ∀ t ∈ kids, hasT notJsonT t = false) : hasT notJsonT (mapP la lc ka kc keys kids) = false := has_no8 rfl h
theorem jkey_at {n k : Nat} (h : k < n) (h5 : n ≤ 5) : jkey (jnm n) k = [34, UInt8.ofNat (97 + k), 34, 58] := by
  rcases (show n = 1 ∨ n = 2 ∨ n = 3 ∨ n = 4 ∨ n = 5 by omega) with rfl | rfl | rfl | rfl | rfl <;>
    rcases (show k = 0 ∨ k = 1 ∨ k = 2 ∨ k = 3 ∨ k = 4 by omega) with rfl | rfl | rfl | rfl | rfl <;> first | omega | decide +kernel
end Go.Proofs.YtbfgkogccfioiaaGreatDoor
