/-
  SpPtM SpPtW, one behind the other: a claim holds at most 60 files.
-/
import Derived.Test.YtajhfihkgekffaaDoorSV
import Derived.Test.YtajhfihkgekffaaDoorSZ
section
namespace Go.Proofs.YtajhfihkgekffaaDoor

/-- A number alone, as a span. -/
def pt (n : Nat) : Sp := (some (n : Int), some (n : Int))
def hasN (M : List Nat) (x : Int) : Bool := M.any fun n => decide ((n : Int) = x)
theorem memS_pt (M : List Nat) (x : Int) : memS (M.map pt) x = hasN M x := by
  unfold memS hasN
  rw [List.any_map]
  congr 1
  funext n
  show (decide ((n : Int) ≤ x) && decide (x ≤ (n : Int))) = _
  by_cases h : (n : Int) = x
  · subst h; simp
  · rw [decide_eq_false h]
    by_cases h1 : (n : Int) ≤ x
    · rw [decide_eq_false (show ¬ x ≤ (n : Int) by omega)]; simp
    · rw [decide_eq_false h1]; rfl
theorem hasN_iff {M : List Nat} {x : Int} : hasN M x = true ↔ ∃ n ∈ M, (n : Int) = x := by
  unfold hasN
  rw [List.any_eq_true]
  constructor
  · rintro ⟨n, h1, h2⟩; exact ⟨n, h1, of_decide_eq_true h2⟩
  · rintro ⟨n, h1, h2⟩; exact ⟨n, h1, decide_eq_true h2⟩
theorem hasN_rng {M : List Nat} (hM : ∀ n ∈ M, n < 60) {x : Int} (h : hasN M x = true) : 0 ≤ x ∧ x < 60 := by
  obtain ⟨n, h1, h2⟩ := hasN_iff.1 h
  have := hM n h1
  omega
theorem hasN_snoc (M : List Nat) (n : Nat) (x : Int) : hasN (M ++ [n]) x = (hasN M x || decide ((n : Int) = x)) := by
  unfold hasN
  rw [List.any_append]
  simp
/-- How many runs begin among the first places. -/
def runsU (f : Int → Bool) : Nat → Nat
  | 0 => 0
  | k + 1 => runsU f k + if (f ((k : Int) - 1) && !f ((k : Int) - 2)) = true then 1 else 0
theorem cnt_none : ∀ {P : List (Int × Int)} {a x : Int}, Sep a P → x < a → P.countP (fun p => decide (p.1 = x)) = 0
  | [], _, _, _, _ => rfl
  | p :: r, a, x, ⟨h1, h2, h3, h4⟩, hx => by
    rw [List.countP_cons, cnt_none h4 (by omega), if_neg (by simp; omega)]
theorem sep_start : ∀ {P : List (Int × Int)} {a : Int}, Sep a P → ∀ x, P.countP (fun p => decide (p.1 = x)) = if (memP P x && !memP P (x - 1)) = true then 1 else 0
  | [], _, _, x => rfl
  | p :: r, a, ⟨h1, h2, h3, h4⟩, x => by
    rw [List.countP_cons, memP_cons, memP_cons]
    by_cases e : p.1 = x
    · subst e
      rw [cnt_none h4 (by omega), memP_low h4 (show p.1 < p.2 + 2 by omega), memP_low h4 (show p.1 - 1 < p.2 + 2 by omega), decide_eq_true (Int.le_refl _), decide_eq_true h2, decide_eq_false (by omega : ¬ p.1 ≤ p.1 - 1)]
      simp
    · rw [sep_start h4 x, decide_eq_false e]
      by_cases c1 : x ≤ p.2 + 1
      · rw [memP_low h4 (show x < p.2 + 2 by omega), memP_low h4 (show x - 1 < p.2 + 2 by omega)]
        by_cases c2 : p.1 ≤ x - 1
        · rw [decide_eq_true c2, decide_eq_true (show x - 1 ≤ p.2 by omega)]; simp
        · rw [decide_eq_false (show ¬ p.1 ≤ x by omega)]; simp
      · rw [decide_eq_false (show ¬ x ≤ p.2 by omega), decide_eq_false (show ¬ x - 1 ≤ p.2 by omega)]; simp
theorem cnt_le_succ (P : List (Int × Int)) (k : Int) : P.countP (fun p => decide (p.1 ≤ k + 1)) = P.countP (fun p => decide (p.1 ≤ k)) + P.countP (fun p => decide (p.1 = k + 1)) := by
  induction P with
  | nil => rfl
  | cons p r ih =>
    rw [List.countP_cons, List.countP_cons, List.countP_cons, ih]
    by_cases h1 : p.1 ≤ k
    · rw [if_pos (by simp; omega), if_pos (by simpa using h1), if_neg (by simp; omega)]; omega
    · by_cases h2 : p.1 = k + 1
      · rw [if_pos (by simp; omega), if_neg (by simpa using h1), if_pos (by simpa using h2)]; omega
      · rw [if_neg (by simp; omega), if_neg (by simpa using h1), if_neg (by simpa using h2)]; omega
theorem start_mem {P : List (Int × Int)} {f : Int → Bool} (h : IsN P f) {p : Int × Int} (hp : p ∈ P) : f p.1 = true ∧ -topM ≤ p.1 := by
  obtain ⟨h1, h2, h3⟩ := sep_rng (Int.le_refl _) h.1 p hp
  refine ⟨?_, h1⟩
  rw [← h.2 p.1 h1 (by omega)]
  exact List.any_eq_true.2 ⟨p, hp, by rw [decide_eq_true (Int.le_refl _), decide_eq_true h2]; rfl⟩
theorem runs_cnt {P : List (Int × Int)} {f : Int → Bool} (h : IsN P f) (hf : ∀ x, f x = true → 0 ≤ x ∧ x < 60) : ∀ k : Nat, k ≤ 64 → runsU f k = P.countP (fun p => decide (p.1 ≤ (k : Int) - 2))
  | 0, _ => by
    show 0 = _
    symm
    rw [List.countP_eq_zero]
    intro p hp
    have := hf _ (start_mem h hp).1
    simp
    omega
  | k + 1, hk => by
    have ht := topM_pos
    have e := cnt_le_succ P ((k : Int) - 2)
    rw [show ((k + 1 : Nat) : Int) - 2 = (k : Int) - 2 + 1 by omega, e, ← runs_cnt h hf k (by omega), sep_start h.1, h.2 _ (by omega) (by omega), h.2 _ (by omega) (by omega)]
    show runsU f k + _ = _
    rw [show (k : Int) - 2 + 1 = (k : Int) - 1 by omega, show (k : Int) - 1 - 1 = (k : Int) - 2 by omega]
/-- There are as many runs as spans of the normal form. -/
theorem runs_all {P : List (Int × Int)} {f : Int → Bool} (h : IsN P f) (hf : ∀ x, f x = true → 0 ≤ x ∧ x < 60) : runsU f 63 = P.length := by
  rw [runs_cnt h hf 63 (by omega), List.countP_eq_length]
  intro p hp
  have := hf _ (start_mem h hp).1
  simp
  omega
theorem runs_le (f : Int → Bool) : ∀ k, runsU f k ≤ k
  | 0 => Nat.le_refl _
  | k + 1 => by
    have := runs_le f k
    show runsU f k + _ ≤ _
    split <;> omega
/-- The least number, looked for from above. -/
def leastD (f : Int → Bool) : Nat → Int
  | 0 => -1
  | t + 1 => if f (61 - (t : Int)) = true then 61 - (t : Int) else leastD f t
theorem leastD_spec {f : Int → Bool} (hf : ∀ x, f x = true → 0 ≤ x ∧ x < 60) : ∀ t : Nat, t ≤ 62 → (leastD f t = -1 ∧ ∀ x, 62 - (t : Int) ≤ x → f x = false) ∨ (f (leastD f t) = true ∧ 62 - (t : Int) ≤ leastD f t ∧ ∀ x, 62 - (t : Int) ≤ x → f x = true → leastD f t ≤ x)
  | 0, _ => .inl ⟨rfl, fun x hx => by
      cases h : f x with
      | false => rfl
      | true => have := hf x h; omega⟩
  | t + 1, ht => by
    have ih := leastD_spec hf t (by omega)
    unfold leastD
    by_cases h : f (61 - (t : Int)) = true
    · rw [if_pos h]
      exact .inr ⟨h, by omega, fun x hx _ => by omega⟩
    · rw [if_neg h]
      have key : ∀ x, 62 - ((t + 1 : Nat) : Int) ≤ x → x = 61 - (t : Int) ∨ 62 - (t : Int) ≤ x := fun x hx => by omega
      rcases ih with ⟨h1, h2⟩ | ⟨h1, h2, h3⟩
      · exact .inl ⟨h1, fun x hx => by
          rcases key x hx with rfl | hx
          · simpa using h
          · exact h2 x hx⟩
      · exact .inr ⟨h1, by omega, fun x hx hfx => by
          rcases key x hx with rfl | hx
          · exact absurd hfx h
          · exact h3 x hx hfx⟩
theorem leastD_rng {f : Int → Bool} : ∀ t : Nat, t ≤ 62 → -1 ≤ leastD f t ∧ leastD f t ≤ 61
  | 0, _ => by unfold leastD; omega
  | t + 1, ht => by
    have := leastD_rng (f := f) t (by omega)
    unfold leastD
    split <;> omega
/-- The least of some. -/
def Least (L : List Nat) : Option Int → Prop
  | none => L = []
  | some m => ∃ n ∈ L, m = (n : Int) ∧ ∀ x ∈ L, n ≤ x
theorem pt_facts : ∀ n : Fin 60, eup (n.val : Int) = (n.val : Int) ∧ eup (-(n.val : Int)) = -(n.val : Int) ∧ 59 < rup (n.val : Int) ∧ 59 < rup (-(n.val : Int)) := by decide +kernel
theorem pick_step {L : List Nat} {b : Option Int} (h : Least L b) {n : Nat} (hn : n < 60) : Least (L ++ [n]) ((stepsJ true true).foldl (tryS (pt n)) b) := by
  obtain ⟨e0, e1, e2, e3⟩ := pt_facts ⟨n, hn⟩
  simp only at e0 e1 e2 e3
  have en : nearS (pt n) = (n : Int) := by
    unfold nearS pt
    simp only [Option.getD_some]
    split
    · rfl
    · split
      · rfl
      · omega
  have s0 : stp 0 (nearS (pt n)) = (n : Int) := by rw [en]; exact e0
  have s1 : stp 1 (nearS (pt n)) = (n : Int) := by rw [en]; show -(eup (-(n : Int))) = _; rw [e1]; omega
  have big : ∀ (a : Int), (n : Int) < a ∨ a < (n : Int) → ∀ b, takes (pt n) b a = false := by
    intro a ha b
    unfold takes
    rw [show loE (pt n) = (n : Int) from rfl, show hiE (pt n) = (n : Int) from rfl]
    rcases ha with ha | ha
    · rw [decide_eq_false (show ¬ a ≤ (n : Int) by omega)]; simp
    · rw [decide_eq_false (show ¬ (n : Int) ≤ a by omega)]; simp
  have s2 : ∀ b, tryS (pt n) b 2 = b := fun b => try_no (a := rup (n : Int)) (by rw [en]; rfl) (big _ (by omega) b)
  have s3 : ∀ b, tryS (pt n) b 3 = b := fun b => try_no (a := -(rup (-(n : Int)))) (by rw [en]; rfl) (big _ (by omega) b)
  have tk : ∀ b, takes (pt n) b (n : Int) = match b with | none => true | some c => isN (n : Int) c := by
    intro b
    unfold takes
    rw [show loE (pt n) = (n : Int) from rfl, show hiE (pt n) = (n : Int) from rfl, decide_eq_true (Int.le_refl _), decide_eq_true (show (n : Int).natAbs < 2 ^ 256 from Nat.lt_of_lt_of_le (by omega : (n : Int).natAbs < 60) (by decide))]
    rfl
  have self : isN (n : Int) (n : Int) = true := by
    unfold isN
    rw [decide_eq_true (show (0 : Int) ≤ (n : Int) by omega)]
    simp
  have fin : (stepsJ true true).foldl (tryS (pt n)) b = tryS (pt n) (tryS (pt n) b 0) 1 := by
    show tryS (pt n) (tryS (pt n) (tryS (pt n) (tryS (pt n) b 0) 1) 2) 3 = _
    rw [s2, s3]
  rw [fin]
  match b, h with
  | none, h =>
    have h : L = [] := h
    subst h
    rw [try_yes s0 (by rw [tk]), try_yes s1 (by rw [tk]; exact self)]
    exact ⟨n, by simp, rfl, by simp⟩
  | some c, ⟨m, hm, hcm, hl⟩ =>
    subst hcm
    by_cases hc : n ≤ m
    · have : isN (n : Int) (m : Int) = true := by
        unfold isN
        by_cases e : n = m
        · subst e; exact self
        · rw [decide_eq_true (show (n : Int).natAbs < (m : Int).natAbs by omega)]; rfl
      rw [try_yes s0 (by rw [tk]; exact this), try_yes s1 (by rw [tk]; exact self)]
      refine ⟨n, by simp, rfl, fun x hx => ?_⟩
      rcases List.mem_append.1 hx with hx | hx
      · have := hl x hx; omega
      · have := List.mem_singleton.1 hx; omega
    · have : isN (n : Int) (m : Int) = false := by
        unfold isN
        rw [decide_eq_false (show ¬ (n : Int).natAbs < (m : Int).natAbs by omega), decide_eq_false (show ¬ (n : Int).natAbs = (m : Int).natAbs by omega)]
        rfl
      rw [try_no s0 (by rw [tk]; exact this), try_no s1 (by rw [tk]; exact this)]
      refine ⟨m, by simp [hm], rfl, fun x hx => ?_⟩
      rcases List.mem_append.1 hx with hx | hx
      · exact hl x hx
      · have := List.mem_singleton.1 hx; omega
theorem pick_fold : ∀ (M L : List Nat) (b : Option Int), Least L b → (∀ n ∈ M, n < 60) → Least (L ++ M) ((M.map pt).foldl (fun b s => (stepsJ true true).foldl (tryS s) b) b)
  | [], L, b, h, _ => by simpa using h
  | n :: M, L, b, h, hM => by
    have := pick_fold M (L ++ [n]) _ (pick_step h (hM n (by simp))) (fun x hx => hM x (by simp [hx]))
    rw [List.append_assoc] at this
    exact this
theorem pick_pt {M : List Nat} (hM : ∀ n ∈ M, n < 60) : Least M (pickT (M.map pt) true true) := pick_fold M [] none rfl hM
/-- What Pick tells of single numbers is the least that was found from above. -/
theorem pick_least {M : List Nat} (hM : ∀ n ∈ M, n < 60) : (pickT (M.map pt) true true).isSome = decide (0 ≤ leastD (hasN M) 62) ∧ ((pickT (M.map pt) true true).isSome = true → (pickT (M.map pt) true true).getD 0 = leastD (hasN M) 62) := by
  have h := pick_pt hM
  have k := leastD_spec (f := hasN M) (fun x hx => hasN_rng hM hx) 62 (Nat.le_refl _)
  generalize pickT (M.map pt) true true = r at h
  match r, h with
  | none, h =>
    have h : M = [] := h
    subst h
    rcases k with ⟨k1, _⟩ | ⟨k1, _⟩
    · rw [k1]; exact ⟨rfl, fun h => by cases h⟩
    · cases k1
  | some m, ⟨n, hn, hmn, hl⟩ =>
    subst hmn
    have hin : hasN M (n : Int) = true := hasN_iff.2 ⟨n, hn, rfl⟩
    rcases k with ⟨_, k2⟩ | ⟨k1, k2, k3⟩
    · rw [k2 _ (by omega)] at hin; cases hin
    · obtain ⟨n', hn', e'⟩ := hasN_iff.1 k1
      have a1 := hl n' hn'
      have a2 := k3 _ (by omega) hin
      have e : (n : Int) = leastD (hasN M) 62 := by omega
      rw [← e]
      exact ⟨by rw [decide_eq_true (show (0 : Int) ≤ (n : Int) by omega)]; rfl, fun _ => rfl⟩
end Go.Proofs.YtajhfihkgekffaaDoor
end
section
namespace Go.Proofs.YtajhfihkgekffaaDoor
open Go.RowKit Go.Shelf
open Go.Sort (grow)
attribute [local go_sem ↓] eql_nat neq_nat eql_int5 neq_int5

/-- The number that an argument becomes. -/
def pn (x : Int) : Nat := (IntKind.u64.wrap x % 60).toNat
theorem pn_lt (x : Int) : pn x < 60 := by
  unfold pn
  have h1 := Int.emod_nonneg (IntKind.u64.wrap x) (show (60 : Int) ≠ 0 by decide)
  have h2 := Int.emod_lt_of_pos (IntKind.u64.wrap x) (show (0 : Int) < 60 by decide)
  omega
theorem pn_walk (x : Int) : wrap64 ((IntKind.u64.wrap x).tmod 60) = (pn x : Int) := by
  have h0 : 0 ≤ IntKind.u64.wrap x := by
    have e : IntKind.u64.wrap x = x % 18446744073709551616 := by first | exact IntKind.wrap_u64' _ | rfl
    rw [e]; exact Int.emod_nonneg _ (by decide)
  rw [Int.tmod_eq_emod_of_nonneg h0]
  have h1 := Int.emod_nonneg (IntKind.u64.wrap x) (show (60 : Int) ≠ 0 by decide)
  have h2 := Int.emod_lt_of_pos (IntKind.u64.wrap x) (show (0 : Int) < 60 by decide)
  unfold pn wrap64
  omega
/-- Is a number among some, told at its place? -/
def inN (M : List Nat) (j : Nat) : Bool := hasN M ((j : Int) - 2)
def inC (M : List Nat) : List Value := (List.range 64).map fun j => .bool (inN M j)
theorem inC_len (M : List Nat) : (inC M).length = 64 := by unfold inC; simp
theorem inC_at (M : List Nat) {j : Nat} (h : j < 64) : (inC M)[j]? = some (.bool (inN M j)) := by
  unfold inC
  rw [List.getElem?_map, List.getElem?_range h]
  rfl
theorem inC_put (M : List Nat) {n : Nat} (_hn : n < 60) : (inC M).set (n + 2) (.bool true) = inC (M ++ [n]) := by
  apply List.ext_getElem?
  intro j
  by_cases hj : j < 64
  · rw [inC_at _ hj]
    by_cases e : n + 2 = j
    · subst e
      rw [List.getElem?_set_self (by rw [inC_len]; exact hj)]
      congr 2
      unfold inN
      rw [hasN_snoc, decide_eq_true (show ((n : Nat) : Int) = ((n + 2 : Nat) : Int) - 2 by omega), Bool.or_true]
    · rw [List.getElem?_set_ne e, inC_at _ hj]
      congr 2
      unfold inN
      rw [hasN_snoc, decide_eq_false (show ¬ ((n : Nat) : Int) = ((j : Nat) : Int) - 2 by omega), Bool.or_false]
  · rw [List.getElem?_eq_none (by rw [List.length_set, inC_len]; omega), List.getElem?_eq_none (by rw [inC_len]; omega)]
theorem inC_nil : inC [] = List.replicate 64 (.bool false) := by
  apply List.ext_getElem?
  intro j
  by_cases hj : j < 64
  · rw [inC_at _ hj, List.getElem?_replicate, if_pos hj]
    rfl
  · rw [List.getElem?_eq_none (by rw [inC_len]; omega), List.getElem?_replicate, if_neg hj]
theorem info_bool : (Tryd.prog.info? 4).map (fun i => (i.zero, i.size, i.bytes)) = some (some (.bool false), 1, 1) := by kernel_rfl
theorem und_bools : Tryd.prog.underlying 43 = some (.slice 4) := by kernel_rfl
theorem make_in (W : World) : (Instr.makeSlice 43 (.int .i64 64) (.int .i64 64)).run Tryd.prog W = .ok (.slice (some ⟨W.heap.size, 0, none⟩) 64 64) (W.alloc (.cells (inC []).toArray 4)) := by
  have e0 : ∀ N : Nat, madeCells #[.bool false] N = (List.replicate N (Value.bool false)).toArray := by
    intro N
    apply Array.ext'
    apply List.ext_getElem
    · simp [madeCells]
    · intro i h1 h2
      simp [madeCells, Nat.mod_one]
  have e : madeCells #[.bool false] 64 = (inC []).toArray := by rw [e0, inC_nil]
  rw [← e]
  exact run_make_row' 43 4 (.bool false) 1 und_bools info_bool rfl .i64 .i64 64 (by omega) (by omega) W
/-- The row of the places. -/
def InO (W : World) (base H : Nat) (M : List Nat) : Prop := W.ownsRow base 4 1 (.slice (some ⟨H, 0, none⟩) 64 64) 64 (inC M)
theorem InO.new (W : World) (base H : Nat) (h : W.heap.size = H) (hb : base ≤ H) : InO (W.alloc (.cells (inC []).toArray 4)) base H [] := by
  subst h
  exact ⟨by rw [inC_len], .inr ⟨W.heap.size, 64, _, rfl, hb, heap_alloc_new W _, Nat.le_refl _, by unfold maxLen; omega, by simp [inC_len], (by simp; exact List.take_of_length_le (by rw [inC_len]; omega))⟩⟩
theorem InO.keep {W W' : World} {base H : Nat} {M : List Nat} (h : InO W base H M) (hb : Below W.heap.size W W') : InO W' base H M := own_keep9 h hb
theorem InO.at {W : World} {base H : Nat} {M : List Nat} (h : InO W base H M) {j : Nat} (hj : j < 64) : W.cell? ⟨H, j, none⟩ = some (.bool (inN M j)) := own_at9 h (inC_at M hj)
theorem InO.lt {W : World} {base H : Nat} {M : List Nat} (h : InO W base H M) : base ≤ H ∧ H < W.heap.size := own_base9 h H rfl
theorem InO.grown {W W' : World} {base H : Nat} {M : List Nat} {r : Option Nat} (h : InO W base H M) (hg : W.grownBy W' r) (hne : some H ≠ r) : InO W' base H M := by
  refine ⟨h.1, ?_⟩
  rcases h.2 with ⟨h2, _⟩ | ⟨g, cap, cur, h3, h4, h5, h6⟩
  · cases h2
  · cases h3
    exact .inr ⟨H, 64, cur, rfl, h4, (hg.block H h.lt.2 hne).trans h5, h6⟩
theorem pt_cells (n : Nat) (h : n < 60) : (rsp (pt n)).cells = [.bool true, .bool true, .bool false, .int .u64 (n : Int), .int .u64 0, .int .u64 0, .int .u64 0, .bool false, .int .u64 (n : Int), .int .u64 0, .int .u64 0, .int .u64 0] := by
  obtain ⟨h0, h1, h2, h3⟩ := lb_small (v := (n : Int)) (by omega) (by omega)
  rw [Int.natAbs_natCast] at h0 h1 h2 h3
  unfold rsp pt RS.cells
  simp only [Option.isSome_some, Option.getD_some, Int.natAbs_natCast, h0, h1, h2, h3]
  rw [decide_eq_false (show ¬ (n : Int) < 0 by omega)]
theorem rofint_nat (n : Nat) (h : n < 60) (W : World) : Calls Tryd.prog 25 #[.int .i64 (n : Int)] W fun e w' => e = .returned (.agg #[.bool false, .int .u64 (n : Int), .int .u64 0, .int .u64 0, .int .u64 0]) ∧ Below W.heap.size W w' := by
  have := rofint9 (n : Int) (by omega) (by omega) W
  rw [Iz_nat, I5_word false n (by omega)] at this
  exact this
theorem pt_in {W : World} {base : Nat} {v : Value} {M : List Nat} (h : Bs W base v ((M.map pt).map rsp)) (hM : ∀ n ∈ M, n < 60) (hl : M.length ≤ 30) : IS W v (hasN M) 30 := by
  obtain ⟨la, lc, bb, h1, h2, h3, h4, _⟩ := h.form
  rw [List.length_map] at h1 h3
  have hb : (2 : Nat) ^ 256 > 60 := by decide
  refine ⟨M.map pt, ⟨la, lc, bb, 0, h1, h2, h3, h4, ?_, by rw [List.length_map]; omega⟩, by rw [List.length_map]; exact hl, fun x _ _ => memS_pt M x⟩
  intro s hs
  obtain ⟨n, hn, rfl⟩ := List.mem_map.1 hs
  have := hM n hn
  have ht := topM_pos
  exact ⟨fun a ha => by cases ha; unfold inR; omega, fun a ha => by cases ha; unfold inR; omega⟩
theorem inN_at (M : List Nat) (k : Nat) : inN M k = hasN M ((k : Int) - 2) := rfl
theorem runs_step (M : List Nat) (k : Nat) : runsU (hasN M) (k + 1) = runsU (hasN M) k + if (inN M (k + 1) && !inN M k) = true then 1 else 0 := by
  show runsU (hasN M) k + _ = _
  unfold inN
  rw [show ((k + 1 : Nat) : Int) - 2 = (k : Int) - 1 by omega]
theorem least_step (M : List Nat) {j : Nat} (h2 : 2 ≤ j) (h3 : j ≤ 63) : leastD (hasN M) (63 - (j - 1)) = if inN M j = true then (j : Int) - 2 else leastD (hasN M) (63 - j) := by
  rw [show 63 - (j - 1) = (63 - j) + 1 by omega]
  show (if hasN M (61 - ((63 - j : Nat) : Int)) = true then 61 - ((63 - j : Nat) : Int) else leastD (hasN M) (63 - j)) = _
  unfold inN
  rw [show 61 - ((63 - j : Nat) : Int) = (j : Int) - 2 by omega]
theorem pn_take {zs : List Int} {k : Nat} (h : k < zs.length) : (zs.take (k + 1)).map pn = (zs.take k).map pn ++ [pn (zs.getD k 0)] := by
  rw [List.take_succ_eq_append_getElem h, List.map_append, List.getD_eq_getElem?_getD, List.getElem?_eq_getElem h]
  rfl
theorem bs_pt {W : World} {base : Nat} {v : Value} {M : List Nat} {n c : Nat} {cs : List Value} (hO : W.ownsRow base 35 12 v c (csS ((M.map pt).map rsp) ++ cs)) (hc : c = M.length + 1) (hn : n < 60) (hcs : cs = [.bool true, .bool true, .bool false, .int .u64 (n : Int), .int .u64 0, .int .u64 0, .int .u64 0, .bool false, .int .u64 (n : Int), .int .u64 0, .int .u64 0, .int .u64 0]) : Bs W base v (((M ++ [n]).map pt).map rsp) := by
  subst hc hcs
  rw [List.map_append, List.map_append]
  exact Bs.snoc (r := rsp (pt n)) (l := (M.map pt).map rsp) (by rw [List.length_map, List.length_map]; exact hO) (pt_cells n hn)

set_option maxRecDepth 400000 in
set_option maxHeartbeats 16000000 in
theorem pts_main (la : Option Addr) (lca : Nat) (zs : List Int) (bb off : Nat) (w0 : World) (hT : Tb w0) (hla : 0 < zs.length → la = some ⟨bb, off, none⟩) (hzc : ∀ i, i < zs.length → w0.cell? ⟨bb, off + i, none⟩ = some (.int .i64 (zs.getD i 0))) (h30 : zs.length ≤ 30) :
    Calls Tryd.prog 5 #[.slice la zs.length lca] w0 fun e w' => e = .returned (.bool true) ∧ Below w0.heap.size w0 w' := by
  obtain ⟨i0, hi0, hz0, hz1, hz2⟩ := info9 info_span
  have HT := Lib.hid hT; have HLA := Lib.hid hla; have HZC := Lib.hid hzc
  have hmk := make_in
  have h30' : ¬ (30 : Int) < (zs.length : Int) := by omega
  clear hT hla hzc
  go_enter Tryd.func5, Tryd.ntmps5
  go_wp2
  clear hmk
  have HIO := Lib.hid (InO.new w0 w0.heap.size w0.heap.size rfl (Nat.le_refl _))
  go_loopw [3, 5] (fun v i wr => ∃ k : Nat, k ≤ zs.length ∧ i = .int .i64 k ∧ Hid (Below w0.heap.size w0 wr) ∧ Hid (Bs wr w0.heap.size v ((((zs.take k).map pn).map pt).map rsp)) ∧ Hid (InO wr w0.heap.size w0.heap.size ((zs.take k).map pn)) ∧ Hid (v.ownBlock ≠ some w0.heap.size)) (fun _ i _ => zs.length - (intOf i).toNat)
  case atStart => exact ⟨0, Nat.zero_le _, rfl, bal (Below.refl _ _) _, Bs.nil _ _, HIO.out, (show Hid _ from by show _ ≠ _; exact fun h => by cases h)⟩
  case round =>
    obtain ⟨k, hk, rfl, BW, BO, IO, NE⟩ := hrel
    by_cases hlt : k < zs.length
    · obtain rfl : la = some ⟨bb, off, none⟩ := HLA.out (by omega)
      have hbb : bb < w0.heap.size := block_lt_of_cell (HZC.out k hlt)
      have hc : wr.cell? ⟨bb, off + k, none⟩ = some (.int .i64 (zs.getD k 0)) := by rw [BW.out.cell (p := ⟨bb, off + k, none⟩) hbb]; exact HZC.out k hlt
      have HPT := Lib.hid (pn_take hlt)
      obtain ⟨x, hx⟩ : ∃ x, zs.getD k 0 = x := ⟨_, rfl⟩
      rw [hx] at hc HPT
      have HPW := Lib.hid (pn_walk x)
      have hml := pn_lt x
      obtain ⟨M, hM⟩ : ∃ M, (zs.take k).map pn = M := ⟨_, rfl⟩
      have hMl : Hid (M.length = k) := Lib.hid (by rw [← hM, List.length_map, List.length_take]; omega)
      rw [hM] at BO IO HPT
      clear hx hM
      go_upto_region 9 with (fail)
      clear hc
      rw [HPW.out]
      obtain ⟨m, hm⟩ : ∃ m, pn x = m := ⟨_, rfl⟩
      rw [hm] at HPT hml ⊢
      clear HPW hm
      have e0 : (0 : Int) ≤ (m : Int) := by omega
      have e1 : (m : Int) < 60 := by omega
      have hcm := IO.out.at (j := m + 2) (by omega)
      have hfm := own_free9 IO.out (m + 2)
      have KO := Lib.hid (fun W => rofint_nat m hml W)
      have HIP := Lib.hid (inC_put M hml)
      go_upto_region 10 with (fail)
      
      have IO2 : Hid (InO (wr.setCell ⟨w0.heap.size, m + 2, none⟩ (.bool true)) w0.heap.size w0.heap.size (M ++ [m])) := Lib.hid (by have := own_put9 IO.out (m + 2) (.bool true); rw [HIP.out] at this; exact this)
      have BO2 := Lib.hid (own_set9 (b := w0.heap.size) (i := m + 2) BO.out NE.out (.bool true))
      have BW2 : Hid (Below w0.heap.size w0 (wr.setCell ⟨w0.heap.size, m + 2, none⟩ (.bool true))) := Lib.hid (bsc BW.out (Nat.le_refl _) _)
      clear hcm hfm
      obtain ⟨wq, hwq⟩ : ∃ wq, wr.setCell ⟨w0.heap.size, m + 2, none⟩ (.bool true) = wq := ⟨_, rfl⟩
      rw [hwq] at IO2 BO2 BW2 ⊢
      clear hwq
      go_wp2_with fail
      ((with_reducible refine (KO.out _).mono ?_); rintro e w1 ⟨rfl, hb1⟩)
      go_wp2_with fail
      ((with_reducible refine (KO.out _).mono ?_); rintro e w2 ⟨rfl, hb2⟩)
      have BO3 := Lib.hid (own_keep9 BO2.out (btr hb1 hb2))
      have IO3 := Lib.hid (IO2.out.keep (btr hb1 hb2))
      have BW3 := Lib.hid (btr (btr BW2.out hb1) hb2)
      have hsz : w0.heap.size ≤ w2.heap.size := BW3.out.size
      have PC := Lib.hid (pt_cells m hml)
      have HL := Lib.hid IO3.out.lt.2
      have BO5 : Hid (w2.ownsRow w0.heap.size 35 12 u3 M.length (csS ((M.map pt).map rsp))) := Lib.hid (by have := BO3.out; unfold Bs at this; rw [List.length_map, List.length_map] at this; exact this)
      have hMl2 : M.length ≤ 30 := by rw [hMl.out]; omega
      clear hb1 hb2
      go_wp2_with (at_builtin; refine wpList_append_lies _ rfl (.tmp 36) (.tmp 42) 22 rfl w0.heap.size 35 i0 (V12 false false false 0 0 0 0 false 0 0 0 0) 12 88 und_spans hi0 hz0 hz1 hz2 rfl (by decide) u3 M.length _ rfl (own_keep9 BO5.out (by repeat (first | (with_reducible exact Below.refl _ _) | (with_reducible refine bal ?_ _) | (with_reducible refine Below.drew ?_) | (with_reducible refine bdn ?_ _)))) ⟨w2.heap.size, 0, none⟩ 1 1 _ rfl rfl (news9 _ _ _ _ (by simp)) (by rw [← PC.out]; exact RS.cells_one _) (by decide) (by unfold maxLen; omega) (by omega) (by simp <;> omega) _ rfl ?_; intro g4 cap4 w4 hown hgrow hat hlt4; have BO4 := Lib.hid (bs_pt (n := m) hown rfl hml rfl); have BW4 : Hid (Below w0.heap.size w0 w4) := Lib.hid (Below.grown (by repeat (first | (with_reducible exact BW3.out) | (with_reducible refine bal ?_ _) | (with_reducible refine Below.drew ?_) | (with_reducible refine bdn ?_ _))) hgrow (by simp <;> omega) (fun q hq => (own_base9 BO3.out q hq).1)); have IO4 := Lib.hid ((IO3.out.keep (bal (Below.refl _ _) _)).grown hgrow (fun h => NE.out h.symm)); have NE4 : Hid (g4 ≠ w0.heap.size) := Lib.hid (by rcases hat with h | h; exact (fun hc => NE.out (by rw [h, hc])); (have := HL.out; simp at h; omega)); clear hown hgrow hat hlt4)
      go_roundw
      case rel => exact ⟨k + 1, by omega, by go_num, BW4.out, (show Hid _ from by rw [HPT.out]; exact BO4), (show Hid _ from by rw [HPT.out]; exact IO4), (show Hid _ from by show _ ≠ _; intro hc; exact NE4.out (Option.some.inj hc))⟩
      case measure => simp [intOf]; omega
    · have hge : ¬ (k : Int) < (zs.length : Int) := by omega
      obtain ⟨wo, rfl⟩ : ∃ wo : World, wo = wr := ⟨_, rfl⟩
      rw [List.take_of_length_le (by omega)] at BO IO
      obtain ⟨M, hM⟩ : ∃ M, zs.map pn = M := ⟨_, rfl⟩
      have hM60 : ∀ n ∈ M, n < 60 := by intro n hn; rw [← hM] at hn; obtain ⟨x, _, rfl⟩ := List.mem_map.1 hn; exact pn_lt x
      have hMl : M.length ≤ 30 := by rw [← hM, List.length_map]; exact h30
      rw [hM] at BO IO
      have HIS := Lib.hid (pt_in BO.out hM60 hMl)
      have HPL := Lib.hid (pick_least hM60)
      have HRA := Lib.hid (fun P (hP : IsN P (hasN M)) => runs_all hP (fun x hx => hasN_rng hM60 hx))
      have HRL := Lib.hid (fun k => runs_le (hasN M) k)
      have HLR := Lib.hid (fun t (ht : t ≤ 62) => leastD_rng (f := hasN M) t ht)
      have hfin : In9 wo u3 (M.map pt) := by
        obtain ⟨la', lc', bb', h1, h2, h3, h4, _⟩ := BO.out.form
        rw [List.length_map] at h1 h3
        refine ⟨la', lc', bb', 0, h1, h2, h3, h4, ?_, by rw [List.length_map]; omega⟩
        intro s hs
        obtain ⟨n, hn, rfl⟩ := List.mem_map.1 hs
        have := hM60 n hn
        have ht := topM_pos
        exact ⟨fun a ha => by cases ha; unfold inR; omega, fun a ha => by cases ha; unfold inR; omega⟩
      have HIN := Lib.hid hfin
      clear hM hM60 hfin BO NE hge
      go_wp2
      go_loopw [7, 8] (fun r i wr => ∃ k2 : Nat, k2 ≤ 63 ∧ i = .int .i64 ((k2 : Int) + 1) ∧ r = .int .i64 ((runsU (hasN M) k2 : Nat) : Int) ∧ Hid (wo = wr)) (fun _ i _ => 64 - (intOf i).toNat)
      case atStart => exact ⟨0, by omega, rfl, rfl, (show Hid _ from rfl)⟩
      case round =>
        obtain ⟨k2, hk2, rfl, rfl, EW⟩ := hrel
        obtain rfl := EW.out
        clear EW
        by_cases hlt : k2 < 63
        · have c1 := IO.out.at (j := k2 + 1) (by omega)
          have c2 := IO.out.at (j := k2) (by omega)
          have HRS := Lib.hid (runs_step M k2)
          have hrl := HRL.out k2
          obtain ⟨r, hr⟩ : ∃ r, runsU (hasN M) k2 = r := ⟨_, rfl⟩
          rw [hr] at HRS hrl ⊢
          obtain ⟨p, hp⟩ : ∃ p, inN M (k2 + 1) = p := ⟨_, rfl⟩
          obtain ⟨q, hq⟩ : ∃ q, inN M k2 = q := ⟨_, rfl⟩
          rw [hp] at c1 HRS
          rw [hq] at c2 HRS
          clear hr hp hq
          have e1 : (k2 : Int) + 1 < 64 := by omega
          cases p <;> cases q
          all_goals
            go_wp2
            go_roundw
            case rel => exact ⟨k2 + 1, by omega, by go_num, (by rw [HRS.out]; rfl), (by unfold Hid; trivial)⟩
            case measure => simp [intOf]; omega
        · have hge : ¬ (k2 : Int) + 1 < 64 := by omega
          obtain rfl : k2 = 63 := by omega
          clear hk2 hlt
          have HR63 := Lib.hid (HRL.out 63)
          obtain ⟨rr, hrr⟩ : ∃ rr, runsU (hasN M) 63 = rr := ⟨_, rfl⟩
          have HRR := Lib.hid hrr
          rw [hrr]
          clear hrr
          go_wp2
          go_loopw [9] (fun i wr => ∃ k3 : Nat, k3 ≤ 62 ∧ i = .int .i64 k3 ∧ Hid (Below wo.heap.size wo wr)) (fun i _ => 62 - (intOf i).toNat)
          case atStart => exact ⟨0, by omega, rfl, Below.refl _ _⟩
          case round =>
            obtain ⟨k3, hk3, rfl, BX⟩ := hrel
            by_cases hlt : k3 < 62
            · have e1 : (k3 : Int) < 62 := by omega
              have e2 : (0 : Int) ≤ (k3 : Int) := by omega
              have e3 : (k3 : Int) < 64 := by omega
              have hcj := (IO.out.keep BX.out).at (j := k3) (by omega)
              have hzr : inR ((k3 : Int) - 2) := by have := topM_pos; unfold inR; omega
              have kof : ∀ W, Calls Tryd.prog 25 #[.int .i64 ((k3 : Int) - 2)] W fun e w' => e = .returned (Iz ((k3 : Int) - 2)) ∧ Below W.heap.size W w' := fun W => rofint9 _ (by omega) (by omega) W
              have khas : ∀ W, Below wo.heap.size wo W → Calls Tryd.prog 23 #[u3, Iz ((k3 : Int) - 2)] W fun e w' => e = .returned (.bool (inN M k3)) ∧ Below W.heap.size W w' := fun W hW => has_is (HIS.out.keep hW) _ hzr
              obtain ⟨y0, y1, y2, y3, y4, hyv⟩ : ∃ z0 z1 z2 z3 z4, Iz ((k3 : Int) - 2) = .agg #[.bool z0, .int .u64 z1, .int .u64 z2, .int .u64 z3, .int .u64 z4] := ⟨_, _, _, _, _, rfl⟩
              rw [hyv] at kof khas
              obtain ⟨p, hp⟩ : ∃ p, inN M k3 = p := ⟨_, rfl⟩
              rw [hp] at khas hcj
              have KOF := Lib.hid kof; have KHAS := Lib.hid khas
              have HLT := Lib.hid IO.out.lt.2
              have hHlt := block_lt_of_cell hcj
              clear kof khas hyv hp hzr
              have t1 : IntKind.i64.wrap ((k3 : Int) - 2) = (k3 : Int) - 2 := Go.IntWalk.i64_in _ (by omega)
              cases p
              · go_upto_region 20 with (fail)
                go_region_held3 (fun w' => w'.cell? ⟨w0.heap.size, k3, none⟩ = some (.bool false)) (first | assumption | (simp [go_sem, *]; done)) (first | (go_at_call 25; (with_reducible refine (KOF.out _).mono ?_); rintro e wa ⟨rfl, hb⟩; have Ba : Hid (Below wo.heap.size wo wa) := Lib.hid (btr (by repeat (first | (with_reducible exact BX.out) | (with_reducible refine bal ?_ _) | (with_reducible refine Below.drew ?_) | (with_reducible refine bdn ?_ _))) hb); have hca := cell_keep9 hb (by first | assumption | (simp [go_sem, *]; done)); clear hb) | (go_at_call 23; (with_reducible refine (KHAS.out _ (by repeat (first | (with_reducible exact Ba.out) | (with_reducible refine bal ?_ _) | (with_reducible refine Below.drew ?_) | (with_reducible refine bdn ?_ _)))).mono ?_); rintro e wb ⟨rfl, hb⟩; have Bb : Hid (Below wo.heap.size wo wb) := Lib.hid (btr (by repeat (first | (with_reducible exact Ba.out) | (with_reducible refine bal ?_ _) | (with_reducible refine Below.drew ?_) | (with_reducible refine bdn ?_ _))) hb); have hcb := cell_keep9 hb (by first | assumption | (simp [go_sem, *]; done)); clear hb) | fail)
                all_goals
                  go_wp2
                  go_roundw
                  case rel => exact ⟨k3 + 1, by omega, by go_num, Lib.hid (by repeat (first | (with_reducible exact Bb.out) | (with_reducible refine bal ?_ _) | (with_reducible refine Below.drew ?_) | (with_reducible refine bdn ?_ _)))⟩
                  case measure => simp [intOf]; omega
              · go_upto_region 20 with (fail)
                go_region_held3 (fun w' => w'.cell? ⟨w0.heap.size, k3, none⟩ = some (.bool true)) (first | assumption | (simp [go_sem, *]; done)) (first | (go_at_call 25; (with_reducible refine (KOF.out _).mono ?_); rintro e wa ⟨rfl, hb⟩; have Ba : Hid (Below wo.heap.size wo wa) := Lib.hid (btr (by repeat (first | (with_reducible exact BX.out) | (with_reducible refine bal ?_ _) | (with_reducible refine Below.drew ?_) | (with_reducible refine bdn ?_ _))) hb); have hca := cell_keep9 hb (by first | assumption | (simp [go_sem, *]; done)); clear hb) | (go_at_call 23; (with_reducible refine (KHAS.out _ (by repeat (first | (with_reducible exact Ba.out) | (with_reducible refine bal ?_ _) | (with_reducible refine Below.drew ?_) | (with_reducible refine bdn ?_ _)))).mono ?_); rintro e wb ⟨rfl, hb⟩; have Bb : Hid (Below wo.heap.size wo wb) := Lib.hid (btr (by repeat (first | (with_reducible exact Ba.out) | (with_reducible refine bal ?_ _) | (with_reducible refine Below.drew ?_) | (with_reducible refine bdn ?_ _))) hb); have hcb := cell_keep9 hb (by first | assumption | (simp [go_sem, *]; done)); clear hb) | fail)
                all_goals
                  go_wp2
                  go_roundw
                  case rel => exact ⟨k3 + 1, by omega, by go_num, Lib.hid (by repeat (first | (with_reducible exact Bb.out) | (with_reducible refine bal ?_ _) | (with_reducible refine Below.drew ?_) | (with_reducible refine bdn ?_ _)))⟩
                  case measure => simp [intOf]; omega
            · have hge3 : ¬ (k3 : Int) < 62 := by omega
              obtain ⟨wp, rfl⟩ : ∃ wp : World, wp = wr := ⟨_, rfl⟩
              have hpk := pick_in true true (HIN.out.keep BX.out) (tb_on HT.out (btr BW.out BX.out))
              obtain ⟨b, hbs⟩ : ∃ b, (pickT (M.map pt) true true).isSome = b := ⟨_, rfl⟩
              have hpl := HPL.out
              obtain ⟨zp, hzp⟩ : ∃ zp, (pickT (M.map pt) true true).getD 0 = zp := ⟨_, rfl⟩
              rw [hbs, hzp] at hpk hpl
              obtain ⟨y0, y1, y2, y3, y4, hyv⟩ : ∃ z0 z1 z2 z3 z4, Iz zp = .agg #[.bool z0, .int .u64 z1, .int .u64 z2, .int .u64 z3, .int .u64 z4] := ⟨_, _, _, _, _, rfl⟩
              rw [hyv] at hpk
              have HPK := Lib.hid hpk; have HPL2 := Lib.hid hpl; have HYV := Lib.hid hyv
              clear hpk hpl hyv hbs hzp HPL hlt hk3
              go_wp2_with fail
              ((with_reducible refine HPK.out.mono ?_); rintro e w5 ⟨rfl, hb⟩)
              have BX5 := Lib.hid (btr BX.out hb)
              clear hb HPK
              have X5 := Row5.new w5 (.bool y0) (.int .u64 y1) (.int .u64 y2) (.int .u64 y3) (.int .u64 y4)
              have BX6 := Lib.hid (bal BX5.out (.cells #[.bool y0, .int .u64 y1, .int .u64 y2, .int .u64 y3, .int .u64 y4] 33))
              have IO6 := Lib.hid (IO.out.keep BX6.out)
              go_upto_region 23 with (fail)
              go_name_world w6 hw6
              rw [hw6] at X5 BX6 IO6
              clear hw6
              go_wp2
              go_loopw [12, 13] (fun lv i wr => ∃ j : Nat, 1 ≤ j ∧ j ≤ 63 ∧ i = .int .i64 (j : Int) ∧ lv = .int .i64 (leastD (hasN M) (63 - j)) ∧ Hid (w6 = wr)) (fun _ i _ => (intOf i).toNat)
              case atStart => exact ⟨63, by omega, by omega, rfl, rfl, (show Hid _ from rfl)⟩
              case round =>
                obtain ⟨j, hj1, hj2, rfl, rfl, EW⟩ := hrel
                obtain rfl := EW.out
                clear EW
                by_cases hlt : 2 ≤ j
                · have c1 := IO6.out.at (j := j) (by omega)
                  have HLS := Lib.hid (least_step M hlt hj2)
                  have e1 : (2 : Int) ≤ (j : Int) := by omega
                  obtain ⟨lv, hlv⟩ : ∃ lv, leastD (hasN M) (63 - j) = lv := ⟨_, rfl⟩
                  rw [hlv] at HLS ⊢
                  obtain ⟨p, hp⟩ : ∃ p, inN M j = p := ⟨_, rfl⟩
                  rw [hp] at c1 HLS
                  clear hlv hp
                  cases p
                  all_goals
                    go_wp2
                    go_roundw
                    case rel => exact ⟨j - 1, by omega, by omega, (by rw [show ((j - 1 : Nat) : Int) = (j : Int) - 1 by omega]), (by rw [HLS.out]; rfl), (by unfold Hid; trivial)⟩
                    case measure => simp [intOf]; omega
                · obtain rfl : j = 1 := by omega
                  have hge4 : ¬ (2 : Int) ≤ ((1 : Nat) : Int) := by omega
                  clear hlt hj1 hj2
                  have hlr := HLR.out 62 (by omega)
                  have HPL3 := HPL2
                  rw [show (63 - 1 : Nat) = 62 from rfl]
                  obtain ⟨lv, hlv⟩ : ∃ lv, leastD (hasN M) 62 = lv := ⟨_, rfl⟩
                  have hp3 := HPL3.out
                  rw [hlv] at hlr hp3 ⊢
                  clear hlv HPL3 HPL2
                  obtain ⟨hp4, hp5⟩ := hp3
                  have kof : ∀ W, Calls Tryd.prog 25 #[.int .i64 lv] W fun e w' => e = .returned (Iz lv) ∧ Below W.heap.size W w' := fun W => rofint9 _ (by omega) (by omega) W
                  have t1 : ∀ a : Int, a = lv → lv ≤ 61 := fun _ _ => hlr.2
                  clear t1
                  have h5 : 0 ≤ lv ∨ ¬ 0 ≤ lv := by omega
                  rcases h5 with h5 | h5
                  · rw [decide_eq_true h5] at hp4
                    subst hp4
                    obtain rfl := hp5 rfl
                    rw [HYV.out] at kof
                    have heq : eq5 y0 y1 y2 y3 y4 y0 y1 y2 y3 y4 = true := by unfold eq5 eq4; simp
                    have HDC : decide (0 ≤ zp) = true := decide_eq_true h5
                    have KOF := Lib.hid kof
                    clear kof hp5
                    go_upto_region 29 with (fail)
                    first | (go_region_held3 (fun w' => w'.cell? ⟨w5.heap.size, 0, none⟩ = some (.bool y0) ∧ w'.cell? ⟨w5.heap.size, 1, none⟩ = some (.int .u64 y1) ∧ w'.cell? ⟨w5.heap.size, 2, none⟩ = some (.int .u64 y2) ∧ w'.cell? ⟨w5.heap.size, 3, none⟩ = some (.int .u64 y3) ∧ w'.cell? ⟨w5.heap.size, 4, none⟩ = some (.int .u64 y4)) ((refine Row5.parts ?_; (repeat (first | (with_reducible assumption) | (with_reducible refine Row5.alloc ?_ _) | (with_reducible refine Row5.drew ?_) | (with_reducible refine Row5.drewN ?_ _))); done)) (first | (go_at_call 7; (with_reducible refine (told9_true _ (tb_on HT.out (btr BW.out (by repeat (first | (with_reducible exact Ba.out) | (with_reducible exact BX6.out) | (with_reducible refine bal ?_ _) | (with_reducible refine Below.drew ?_) | (with_reducible refine bdn ?_ _)))))).mono ?_); rintro e wa ⟨rfl, hb⟩; have Ra : Row5 wa w5.heap.size (.bool y0) (.int .u64 y1) (.int .u64 y2) (.int .u64 y3) (.int .u64 y4) := Row5.keep hb (by repeat (first | (with_reducible assumption) | (with_reducible refine Row5.alloc ?_ _) | (with_reducible refine Row5.drew ?_) | (with_reducible refine Row5.drewN ?_ _))); have Ba : Hid (Below wo.heap.size wo wa) := Lib.hid (btr (by repeat (first | (with_reducible exact Ba.out) | (with_reducible exact BX6.out) | (with_reducible refine bal ?_ _) | (with_reducible refine Below.drew ?_) | (with_reducible refine bdn ?_ _))) hb); clear hb) | (go_at_call 11; (with_reducible refine (norm_is (HIS.out.keep (by repeat (first | (with_reducible exact Ba.out) | (with_reducible exact BX6.out) | (with_reducible refine bal ?_ _) | (with_reducible refine Below.drew ?_) | (with_reducible refine bdn ?_ _))))).mono ?_); rintro e wa ⟨vn, rfl, hN, hb⟩; obtain ⟨ln, cn, bn, P, rfl, _, _, _, hIN, _⟩ := hN; obtain rfl : rr = P.length := HRR.out.symm.trans (HRA.out P hIN); clear hIN; have Ra : Row5 wa w5.heap.size (.bool y0) (.int .u64 y1) (.int .u64 y2) (.int .u64 y3) (.int .u64 y4) := Row5.keep hb (by repeat (first | (with_reducible assumption) | (with_reducible refine Row5.alloc ?_ _) | (with_reducible refine Row5.drew ?_) | (with_reducible refine Row5.drewN ?_ _))); have Ba : Hid (Below wo.heap.size wo wa) := Lib.hid (btr (by repeat (first | (with_reducible exact Ba.out) | (with_reducible exact BX6.out) | (with_reducible refine bal ?_ _) | (with_reducible refine Below.drew ?_) | (with_reducible refine bdn ?_ _))) hb); clear hb) | (go_at_call 25; (with_reducible refine (KOF.out _).mono ?_); rintro e wa ⟨rfl, hb⟩; have Ra : Row5 wa w5.heap.size (.bool y0) (.int .u64 y1) (.int .u64 y2) (.int .u64 y3) (.int .u64 y4) := Row5.keep hb (by repeat (first | (with_reducible assumption) | (with_reducible refine Row5.alloc ?_ _) | (with_reducible refine Row5.drew ?_) | (with_reducible refine Row5.drewN ?_ _))); have Ba : Hid (Below wo.heap.size wo wa) := Lib.hid (btr (by repeat (first | (with_reducible exact Ba.out) | (with_reducible exact BX6.out) | (with_reducible refine bal ?_ _) | (with_reducible refine Below.drew ?_) | (with_reducible refine bdn ?_ _))) hb); clear hb) | fail)) | fail
                    all_goals
                      go_wp2
                      go_ret
                      exact ⟨rfl, btr BW.out (by repeat (first | (with_reducible exact Ba.out) | (with_reducible exact BX6.out) | (with_reducible refine bal ?_ _) | (with_reducible refine Below.drew ?_) | (with_reducible refine bdn ?_ _)))⟩
                  · rw [decide_eq_false h5] at hp4
                    subst hp4
                    have HDC : decide (0 ≤ lv) = false := decide_eq_false h5
                    clear kof hp5
                    go_upto_region 29 with (fail)
                    refine wp_region_held_drew (S := fun _ => True) (by kernel_rfl) trivial (fun hHeld => ?_)
                    refine wpAnyH_ready (rs := [0]) (by kernel_rfl) (by simp) ?_
                    refine AllReadyH.cons rfl (fun K hK => ?_) AllReadyH.nil
                    go_simp
                    (go_at_call 7; (with_reducible refine (told9_true _ (tb_on HT.out (btr BW.out (by repeat (first | (with_reducible exact Ba.out) | (with_reducible exact BX6.out) | (with_reducible refine bal ?_ _) | (with_reducible refine Below.drew ?_) | (with_reducible refine bdn ?_ _)))))).mono ?_); rintro e wa ⟨rfl, hb⟩; have Ba : Hid (Below wo.heap.size wo wa) := Lib.hid (btr (by repeat (first | (with_reducible exact Ba.out) | (with_reducible exact BX6.out) | (with_reducible refine bal ?_ _) | (with_reducible refine Below.drew ?_) | (with_reducible refine bdn ?_ _))) hb); clear hb)
                    refine hK.out _ _ trivial (fun hHeld => ?_)
                    clear hK K
                    try simp only [Act.put, List.getElem_toArray, List.getElem_cons_succ, List.getElem_cons_zero, List.setIfInBounds_toArray, List.set_cons_zero, List.set_cons_succ]
                    refine wpAnyH_take (i := 1) (v := ?_) rfl (by kernel_rfl) (by kernel_rfl) (by kernel_rfl) (fun _ _ _ h => h) (Or.inl ⟨by rfl, ?_⟩) trivial ?_
                    rotate_left
                    · intro w hSw; (go_simp <;> with_reducible rfl)
                    try simp only [Act.put, List.getElem_toArray, List.getElem_cons_succ, List.getElem_cons_zero, List.setIfInBounds_toArray, List.set_cons_zero, List.set_cons_succ]
                    refine wpAnyH_take (i := 2) (v := ?_) rfl (by kernel_rfl) (by kernel_rfl) (by kernel_rfl) (fun _ _ _ h => h) (Or.inl ⟨by rfl, ?_⟩) trivial ?_
                    rotate_left
                    · intro w hSw; (go_simp <;> with_reducible rfl)
                    try simp only [Act.put, List.getElem_toArray, List.getElem_cons_succ, List.getElem_cons_zero, List.setIfInBounds_toArray, List.set_cons_zero, List.set_cons_succ]
                    refine wpAnyH_take (i := 5) (v := ?_) rfl (by kernel_rfl) (by kernel_rfl) (by kernel_rfl) (fun _ _ _ h => h) (Or.inl ⟨by rfl, ?_⟩) trivial ?_
                    rotate_left
                    · intro w hSw; (go_simp <;> with_reducible rfl)
                    try simp only [Act.put, List.getElem_toArray, List.getElem_cons_succ, List.getElem_cons_zero, List.setIfInBounds_toArray, List.set_cons_zero, List.set_cons_succ]
                    refine wpAnyH_ready (rs := [3]) (by kernel_rfl) (by simp) ?_
                    refine AllReadyH.cons rfl (fun K hK => ?_) AllReadyH.nil
                    go_simp
                    (go_at_call 11; (with_reducible refine (norm_is (HIS.out.keep (by repeat (first | (with_reducible exact Ba.out) | (with_reducible exact BX6.out) | (with_reducible refine bal ?_ _) | (with_reducible refine Below.drew ?_) | (with_reducible refine bdn ?_ _))))).mono ?_); rintro e wa ⟨vn, rfl, hN, hb⟩; obtain ⟨ln, cn, bn, P, rfl, _, _, _, hIN, _⟩ := hN; obtain rfl : rr = P.length := HRR.out.symm.trans (HRA.out P hIN); clear hIN; have Ba : Hid (Below wo.heap.size wo wa) := Lib.hid (btr (by repeat (first | (with_reducible exact Ba.out) | (with_reducible exact BX6.out) | (with_reducible refine bal ?_ _) | (with_reducible refine Below.drew ?_) | (with_reducible refine bdn ?_ _))) hb); clear hb)
                    refine hK.out _ _ trivial (fun hHeld => ?_)
                    clear hK K
                    try simp only [Act.put, List.getElem_toArray, List.getElem_cons_succ, List.getElem_cons_zero, List.setIfInBounds_toArray, List.set_cons_zero, List.set_cons_succ]
                    refine wpAnyH_take (i := 4) (v := ?_) rfl (by kernel_rfl) (by kernel_rfl) (by kernel_rfl) (fun _ _ _ h => h) (Or.inl ⟨by rfl, ?_⟩) trivial ?_
                    rotate_left
                    · intro w hSw; (go_simp <;> with_reducible rfl)
                    try simp only [Act.put, List.getElem_toArray, List.getElem_cons_succ, List.getElem_cons_zero, List.setIfInBounds_toArray, List.set_cons_zero, List.set_cons_succ]
                    refine wpAnyH_take (i := 6) (v := ?_) rfl (by kernel_rfl) (by kernel_rfl) (by kernel_rfl) (fun _ _ _ h => h) (Or.inl ⟨by rfl, ?_⟩) trivial ?_
                    rotate_left
                    · intro w hSw; (go_simp <;> with_reducible rfl)
                    try simp only [Act.put, List.getElem_toArray, List.getElem_cons_succ, List.getElem_cons_zero, List.setIfInBounds_toArray, List.set_cons_zero, List.set_cons_succ]
                    refine wpAnyH_take (i := 7) (v := ?_) rfl (by kernel_rfl) (by kernel_rfl) (by kernel_rfl) (fun _ _ _ h => h) (Or.inl ⟨by rfl, ?_⟩) trivial ?_
                    rotate_left
                    · intro w hSw; (go_simp <;> with_reducible rfl)
                    try simp only [Act.put, List.getElem_toArray, List.getElem_cons_succ, List.getElem_cons_zero, List.setIfInBounds_toArray, List.set_cons_zero, List.set_cons_succ]
                    refine wpAnyH_take (i := 8) (v := ?_) rfl (by kernel_rfl) (by kernel_rfl) (by kernel_rfl) (fun _ _ _ h => h) (Or.inl ⟨by rfl, ?_⟩) trivial ?_
                    rotate_left
                    · intro w hSw; (go_simp <;> with_reducible rfl)
                    try simp only [Act.put, List.getElem_toArray, List.getElem_cons_succ, List.getElem_cons_zero, List.setIfInBounds_toArray, List.set_cons_zero, List.set_cons_succ]
                    refine wpAnyH_take (i := 9) (v := ?_) rfl (by kernel_rfl) (by kernel_rfl) (by kernel_rfl) (fun _ _ _ h => h) (Or.inl ⟨by rfl, ?_⟩) trivial ?_
                    rotate_left
                    · intro w hSw; (go_simp <;> with_reducible rfl)
                    try simp only [Act.put, List.getElem_toArray, List.getElem_cons_succ, List.getElem_cons_zero, List.setIfInBounds_toArray, List.set_cons_zero, List.set_cons_succ]
                    refine wpAnyH_take (i := 10) (v := ?_) rfl (by kernel_rfl) (by kernel_rfl) (by kernel_rfl) (fun _ _ _ h => h) (Or.inl ⟨by rfl, ?_⟩) trivial ?_
                    rotate_left
                    · intro w hSw; (go_simp <;> with_reducible rfl)
                    try simp only [Act.put, List.getElem_toArray, List.getElem_cons_succ, List.getElem_cons_zero, List.setIfInBounds_toArray, List.set_cons_zero, List.set_cons_succ]
                    refine wpAnyH_take (i := 11) (v := ?_) rfl (by kernel_rfl) (by kernel_rfl) (by kernel_rfl) (fun _ _ _ h => h) (Or.inl ⟨by rfl, ?_⟩) trivial ?_
                    rotate_left
                    · intro w hSw; (go_simp <;> with_reducible rfl)
                    try simp only [Act.put, List.getElem_toArray, List.getElem_cons_succ, List.getElem_cons_zero, List.setIfInBounds_toArray, List.set_cons_zero, List.set_cons_succ]
                    refine wpAnyH_take (i := 12) (v := ?_) rfl (by kernel_rfl) (by kernel_rfl) (by kernel_rfl) (fun _ _ _ h => h) (Or.inl ⟨by rfl, ?_⟩) trivial ?_
                    rotate_left
                    · intro w hSw; (go_simp <;> with_reducible rfl)
                    try simp only [Act.put, List.getElem_toArray, List.getElem_cons_succ, List.getElem_cons_zero, List.setIfInBounds_toArray, List.set_cons_zero, List.set_cons_succ]
                    refine wpAnyH_take (i := 13) (v := ?_) rfl (by kernel_rfl) (by kernel_rfl) (by kernel_rfl) (fun _ _ _ h => h) (Or.inl ⟨by rfl, ?_⟩) trivial ?_
                    rotate_left
                    · intro w hSw; (go_simp <;> with_reducible rfl)
                    try simp only [Act.put, List.getElem_toArray, List.getElem_cons_succ, List.getElem_cons_zero, List.setIfInBounds_toArray, List.set_cons_zero, List.set_cons_succ]
                    refine wpAnyH_take (i := 14) (v := ?_) rfl (by kernel_rfl) (by kernel_rfl) (by kernel_rfl) (fun _ _ _ h => h) (Or.inl ⟨by rfl, ?_⟩) trivial ?_
                    rotate_left
                    · intro w hSw; (go_simp <;> with_reducible rfl)
                    try simp only [Act.put, List.getElem_toArray, List.getElem_cons_succ, List.getElem_cons_zero, List.setIfInBounds_toArray, List.set_cons_zero, List.set_cons_succ]
                    refine wpAnyH_take (i := 15) (v := ?_) rfl (by kernel_rfl) (by kernel_rfl) (by kernel_rfl) (fun _ _ _ h => h) (Or.inl ⟨by rfl, ?_⟩) trivial ?_
                    rotate_left
                    · intro w hSw; (go_simp <;> with_reducible rfl)
                    try simp only [Act.put, List.getElem_toArray, List.getElem_cons_succ, List.getElem_cons_zero, List.setIfInBounds_toArray, List.set_cons_zero, List.set_cons_succ]
                    refine wpAnyH_take (i := 16) (v := ?_) rfl (by kernel_rfl) (by kernel_rfl) (by kernel_rfl) (fun _ _ _ h => h) (Or.inl ⟨by rfl, ?_⟩) trivial ?_
                    rotate_left
                    · intro w hSw; (go_simp <;> with_reducible rfl)
                    try simp only [Act.put, List.getElem_toArray, List.getElem_cons_succ, List.getElem_cons_zero, List.setIfInBounds_toArray, List.set_cons_zero, List.set_cons_succ]
                    refine wpAnyH_take (i := 17) (v := ?_) rfl (by kernel_rfl) (by kernel_rfl) (by kernel_rfl) (fun _ _ _ h => h) (Or.inl ⟨by rfl, ?_⟩) trivial ?_
                    rotate_left
                    · intro w hSw; (go_simp <;> with_reducible rfl)
                    try simp only [Act.put, List.getElem_toArray, List.getElem_cons_succ, List.getElem_cons_zero, List.setIfInBounds_toArray, List.set_cons_zero, List.set_cons_succ]
                    refine wpAnyH_take (i := 18) (v := undef) rfl (by kernel_rfl) (by kernel_rfl) (by kernel_rfl) (fun _ _ _ h => h) (Or.inr ⟨by rfl, rfl⟩) trivial ?_
                    try simp only [Act.put, List.getElem_toArray, List.getElem_cons_succ, List.getElem_cons_zero, List.setIfInBounds_toArray, List.set_cons_zero, List.set_cons_succ]
                    refine wpAnyH_take (i := 19) (v := undef) rfl (by kernel_rfl) (by kernel_rfl) (by kernel_rfl) (fun _ _ _ h => h) (Or.inr ⟨by rfl, rfl⟩) trivial ?_
                    try simp only [Act.put, List.getElem_toArray, List.getElem_cons_succ, List.getElem_cons_zero, List.setIfInBounds_toArray, List.set_cons_zero, List.set_cons_succ]
                    refine wpAnyH_take (i := 20) (v := undef) rfl (by kernel_rfl) (by kernel_rfl) (by kernel_rfl) (fun _ _ _ h => h) (Or.inr ⟨by rfl, rfl⟩) trivial ?_
                    try simp only [Act.put, List.getElem_toArray, List.getElem_cons_succ, List.getElem_cons_zero, List.setIfInBounds_toArray, List.set_cons_zero, List.set_cons_succ]
                    refine wpAnyH_take (i := 21) (v := undef) rfl (by kernel_rfl) (by kernel_rfl) (by kernel_rfl) (fun _ _ _ h => h) (Or.inr ⟨by rfl, rfl⟩) trivial ?_
                    try simp only [Act.put, List.getElem_toArray, List.getElem_cons_succ, List.getElem_cons_zero, List.setIfInBounds_toArray, List.set_cons_zero, List.set_cons_succ]
                    refine wpAnyH_take (i := 22) (v := ?_) rfl (by kernel_rfl) (by kernel_rfl) (by kernel_rfl) (fun _ _ _ h => h) (Or.inl ⟨by rfl, ?_⟩) trivial ?_
                    rotate_left
                    · intro w hSw; (go_simp <;> with_reducible rfl)
                    try simp only [Act.put, List.getElem_toArray, List.getElem_cons_succ, List.getElem_cons_zero, List.setIfInBounds_toArray, List.set_cons_zero, List.set_cons_succ]
                    refine wpAnyH_take (i := 23) (v := ?_) rfl (by kernel_rfl) (by kernel_rfl) (by kernel_rfl) (fun _ _ _ h => h) (Or.inl ⟨by rfl, ?_⟩) trivial ?_
                    rotate_left
                    · intro w hSw; (go_simp <;> with_reducible rfl)
                    try simp only [Act.put, List.getElem_toArray, List.getElem_cons_succ, List.getElem_cons_zero, List.setIfInBounds_toArray, List.set_cons_zero, List.set_cons_succ]
                    refine wpAnyH_take (i := 24) (v := ?_) rfl (by kernel_rfl) (by kernel_rfl) (by kernel_rfl) (fun _ _ _ h => h) (Or.inl ⟨by rfl, ?_⟩) trivial ?_
                    rotate_left
                    · intro w hSw; (go_simp <;> with_reducible rfl)
                    try simp only [Act.put, List.getElem_toArray, List.getElem_cons_succ, List.getElem_cons_zero, List.setIfInBounds_toArray, List.set_cons_zero, List.set_cons_succ]
                    refine wpAnyH_done (by kernel_rfl) ?_ _
                    go_wp2
                    go_ret
                    exact ⟨rfl, btr BW.out (by repeat (first | (with_reducible exact Ba.out) | (with_reducible exact BX6.out) | (with_reducible refine bal ?_ _) | (with_reducible refine Below.drew ?_) | (with_reducible refine bdn ?_ _)))⟩
set_option maxRecDepth 100000 in
set_option maxHeartbeats 4000000 in
theorem pts_l (la : Option Addr) (n lca : Nat) (w : World) (hT : Tb w) (h : (30 : Int) < (n : Int)) :
    Calls Tryd.prog 5 #[.slice la n lca] w fun e w' => e = .returned (.bool true) ∧ Below w.heap.size w w' := by
  have HT := Lib.hid hT
  clear hT
  go_enter Tryd.func5, Tryd.ntmps5
  go_wp2_with fail
  ((with_reducible refine (told9_true _ HT.out).mono ?_); rintro e w9 ⟨rfl, hb⟩)
  go_wp2
  go_ret
  exact ⟨rfl, hb⟩
/-- entrepotlaw9.SpanPoints, of a slice that is there. -/
theorem pts_la (la : Option Addr) (lca : Nat) (zs : List Int) (bb off : Nat) (w0 : World) (hT : Tb w0) (hla : 0 < zs.length → la = some ⟨bb, off, none⟩) (hzc : ∀ i, i < zs.length → w0.cell? ⟨bb, off + i, none⟩ = some (.int .i64 (zs.getD i 0))) :
    Calls Tryd.prog 5 #[.slice la zs.length lca] w0 fun e w' => e = .returned (.bool true) ∧ Below w0.heap.size w0 w' := by
  by_cases h : zs.length ≤ 30
  · exact pts_main la lca zs bb off w0 hT hla hzc h
  · exact pts_l la zs.length lca w0 hT (by omega)
end Go.Proofs.YtajhfihkgekffaaDoor
end
