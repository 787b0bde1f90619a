/-
  Sets of whole numbers as pairs of ends: what rises and does not touch is told by its numbers; what a sweep from edge to edge tells. No walk.
-/
import Derived.Test.YtjlgiejggcbgbaaGreatDoorNatMath
namespace Go.Proofs.YtjlgiejggcbgbaaGreatDoor

/-- The greatest number that there is. -/
def topM : Int := 115792089237316195423570985008687907853269984665640564039457584007913129639935
theorem topM_pos : 1000 ≤ topM := by decide
def inR (x : Int) : Prop := -topM ≤ x ∧ x ≤ topM
theorem inR_abs {x : Int} : inR x ↔ x.natAbs < 2 ^ 256 := by unfold inR topM; omega

/-- Pairs of ends, from a number on, that rise, are not empty and do not touch. -/
def Sep : Int → List (Int × Int) → Prop
  | _, [] => True
  | a, p :: r => a ≤ p.1 ∧ p.1 ≤ p.2 ∧ p.2 ≤ topM ∧ Sep (p.2 + 2) r
def memP (l : List (Int × Int)) (x : Int) : Bool := l.any fun p => decide (p.1 ≤ x) && decide (x ≤ p.2)
theorem memP_nil (x : Int) : memP [] x = false := rfl
theorem memP_cons (p : Int × Int) (r : List (Int × Int)) (x : Int) : memP (p :: r) x = ((decide (p.1 ≤ x) && decide (x ≤ p.2)) || memP r x) := rfl
theorem memP_append (l r : List (Int × Int)) (x : Int) : memP (l ++ r) x = (memP l x || memP r x) := by unfold memP; rw [List.any_append]
theorem Sep.mono {a b : Int} (h : b ≤ a) : ∀ {l : List (Int × Int)}, Sep a l → Sep b l
  | [], _ => trivial
  | _ :: _, ⟨h1, h2, h3, h4⟩ => ⟨Int.le_trans h h1, h2, h3, h4⟩
theorem memP_low : ∀ {a : Int} {l : List (Int × Int)} {x : Int}, Sep a l → x < a → memP l x = false := by
  intro a l
  induction l generalizing a with
  | nil => intro x _ _; rfl
  | cons p r ih =>
    intro x ⟨h1, h2, _, h4⟩ hx
    rw [memP_cons, ih h4 (by omega), decide_eq_false (by omega : ¬ p.1 ≤ x)]
    rfl
theorem sep_uniq : ∀ {P Q : List (Int × Int)} {a : Int}, Sep a P → Sep a Q → (∀ x, a ≤ x → x ≤ topM → memP P x = memP Q x) → P = Q := by
  intro P
  induction P with
  | nil =>
    intro Q a _ hQ h
    cases Q with
    | nil => rfl
    | cons q r =>
      obtain ⟨h1, h2, h3, _⟩ := hQ
      have := h q.1 h1 (by omega)
      rw [memP_nil, memP_cons, decide_eq_true (Int.le_refl _), decide_eq_true h2] at this
      simp at this
  | cons p r ih =>
    intro Q a hP hQ h
    cases Q with
    | nil =>
      obtain ⟨h1, h2, h3, _⟩ := hP
      have := h p.1 h1 (by omega)
      rw [memP_nil, memP_cons, decide_eq_true (Int.le_refl _), decide_eq_true h2] at this
      simp at this
    | cons q t =>
      obtain ⟨a1, a2, a3, a4⟩ := hP
      obtain ⟨b1, b2, b3, b4⟩ := hQ
      have e1 : p.1 = q.1 := by
        rcases Int.lt_trichotomy p.1 q.1 with hl | he | hl
        · have := h p.1 a1 (by omega)
          rw [memP_cons, memP_cons, decide_eq_true (Int.le_refl _), decide_eq_true a2, decide_eq_false (by omega : ¬ q.1 ≤ p.1), memP_low b4 (by omega)] at this
          simp at this
        · exact he
        · have := h q.1 b1 (by omega)
          rw [memP_cons, memP_cons, decide_eq_true (Int.le_refl _), decide_eq_true b2, decide_eq_false (by omega : ¬ p.1 ≤ q.1), memP_low a4 (by omega)] at this
          simp at this
      have e2 : p.2 = q.2 := by
        rcases Int.lt_trichotomy p.2 q.2 with hl | he | hl
        · have := h (p.2 + 1) (by omega) (by omega)
          rw [memP_cons, memP_cons, decide_eq_false (by omega : ¬ p.2 + 1 ≤ p.2), decide_eq_true (by omega : q.1 ≤ p.2 + 1), decide_eq_true (by omega : p.2 + 1 ≤ q.2), memP_low a4 (by omega)] at this
          simp at this
        · exact he
        · have := h (q.2 + 1) (by omega) (by omega)
          rw [memP_cons, memP_cons, decide_eq_false (by omega : ¬ q.2 + 1 ≤ q.2), decide_eq_true (by omega : p.1 ≤ q.2 + 1), decide_eq_true (by omega : q.2 + 1 ≤ p.2), memP_low b4 (by omega)] at this
          simp at this
      obtain ⟨p1, p2⟩ := p
      obtain ⟨q1, q2⟩ := q
      simp only at e1 e2 a1 a2 a3 a4 b1 b2 b3 b4
      subst e1 e2
      rw [ih a4 b4 fun x hx hx2 => by
        have := h x (by omega) hx2
        rw [memP_cons, memP_cons, decide_eq_false (by simp only; omega : ¬ x ≤ (p1, p2).2)] at this
        simpa using this]

/-- The normal pairs of a set. -/
def IsN (P : List (Int × Int)) (f : Int → Bool) : Prop := Sep (-topM) P ∧ ∀ x, -topM ≤ x → x ≤ topM → memP P x = f x
theorem IsN.uniq {P Q : List (Int × Int)} {f : Int → Bool} (h : IsN P f) (k : IsN Q f) : P = Q := sep_uniq h.1 k.1 fun x h1 h2 => by rw [h.2 x h1 h2, k.2 x h1 h2]
theorem IsN.uniq' {P Q : List (Int × Int)} {f g : Int → Bool} (h : IsN P f) (k : IsN Q g) (e : ∀ x, -topM ≤ x → x ≤ topM → f x = g x) : P = Q := sep_uniq h.1 k.1 fun x h1 h2 => by rw [h.2 x h1 h2, k.2 x h1 h2, e x h1 h2]

/-- A span as its ends, if there are such. -/
abbrev Sp := Option Int × Option Int
def loE (s : Sp) : Int := s.1.getD (-topM)
def hiE (s : Sp) : Int := s.2.getD topM
def ofSp (p : Int × Int) : Sp := (if p.1 = -topM then none else some p.1, if p.2 = topM then none else some p.2)
theorem loE_of (p : Int × Int) : loE (ofSp p) = p.1 := by unfold loE ofSp; by_cases h : p.1 = -topM <;> simp [h]
theorem hiE_of (p : Int × Int) : hiE (ofSp p) = p.2 := by unfold hiE ofSp; by_cases h : p.2 = topM <;> simp [h]
def memS (l : List Sp) (x : Int) : Bool := l.any fun s => decide (loE s ≤ x) && decide (x ≤ hiE s)
theorem memS_cons (p : Sp) (r : List Sp) (x : Int) : memS (p :: r) x = ((decide (loE p ≤ x) && decide (x ≤ hiE p)) || memS r x) := rfl
theorem memS_append (l r : List Sp) (x : Int) : memS (l ++ r) x = (memS l x || memS r x) := by unfold memS; rw [List.any_append]
theorem memS_of (P : List (Int × Int)) (x : Int) : memS (P.map ofSp) x = memP P x := by
  unfold memS memP
  rw [List.any_map]
  congr 1
  funext p
  simp [loE_of, hiE_of]
/-- Ends that may be. -/
def SpR (s : Sp) : Prop := (∀ a, s.1 = some a → inR a) ∧ ∀ a, s.2 = some a → inR a
theorem SpR.lo {s : Sp} (h : SpR s) : -topM ≤ loE s ∧ loE s ≤ topM := by
  have := topM_pos
  unfold loE
  cases hs : s.1 with
  | none => simp only [Option.getD_none]; omega
  | some a => exact h.1 a hs
theorem SpR.hi {s : Sp} (h : SpR s) : -topM ≤ hiE s ∧ hiE s ≤ topM := by
  have := topM_pos
  unfold hiE
  cases hs : s.2 with
  | none => simp only [Option.getD_none]; omega
  | some a => exact h.2 a hs
theorem sep_rng {a : Int} (ha : -topM ≤ a) : ∀ {P : List (Int × Int)}, Sep a P → ∀ p ∈ P, -topM ≤ p.1 ∧ p.1 ≤ p.2 ∧ p.2 ≤ topM := by
  intro P
  induction P generalizing a with
  | nil => intro _ p hp; cases hp
  | cons q r ih =>
    intro ⟨h1, h2, h3, h4⟩ p hp
    rcases List.mem_cons.1 hp with rfl | hp
    · exact ⟨by omega, h2, h3⟩
    · exact ih (by omega) h4 p hp
theorem ofSp_rng {p : Int × Int} (h : -topM ≤ p.1 ∧ p.1 ≤ p.2 ∧ p.2 ≤ topM) : SpR (ofSp p) := by
  unfold SpR ofSp inR
  constructor
  · intro a ha
    simp only at ha
    split at ha
    · cases ha
    · cases ha; omega
  · intro a ha
    simp only at ha
    split at ha
    · cases ha
    · cases ha; omega
theorem IsN.rng {P : List (Int × Int)} {f : Int → Bool} (h : IsN P f) : ∀ s ∈ P.map ofSp, SpR s := by
  intro s hs
  obtain ⟨p, hp, rfl⟩ := List.mem_map.1 hs
  exact ofSp_rng (sep_rng (Int.le_refl _) h.1 p hp)

/-- Where a set begins and ends, in turn, as pairs. -/
def prs : List Int → List (Int × Int)
  | [] => []
  | [t] => [(t, topM)]
  | t :: u :: r => (t, u - 1) :: prs r
def Inc : Int → List Int → Prop
  | _, [] => True
  | a, t :: r => a ≤ t ∧ t ≤ topM ∧ Inc (t + 1) r
theorem Inc.mono {a b : Int} (h : b ≤ a) : ∀ {l : List Int}, Inc a l → Inc b l
  | [], _ => trivial
  | _ :: _, ⟨h1, h2, h3⟩ => ⟨Int.le_trans h h1, h2, h3⟩
def cnt (T : List Int) (x : Int) : Nat := T.countP fun t => decide (t ≤ x)
theorem cnt_cons (t : Int) (T : List Int) (x : Int) : cnt (t :: T) x = cnt T x + if t ≤ x then 1 else 0 := by
  unfold cnt
  rw [List.countP_cons]
  by_cases h : t ≤ x <;> simp [h]
theorem cnt_low : ∀ {a : Int} {T : List Int} {x : Int}, Inc a T → x < a → cnt T x = 0 := by
  intro a T
  induction T generalizing a with
  | nil => intro x _ _; rfl
  | cons t r ih =>
    intro x ⟨h1, _, h3⟩ hx
    rw [cnt_cons, ih h3 (by omega), if_neg (by omega)]
theorem prs_sep : ∀ (T : List Int) (a : Int), Inc a T → Sep a (prs T)
  | [], _, _ => trivial
  | [t], a, ⟨h1, h2, _⟩ => ⟨h1, h2, Int.le_refl _, trivial⟩
  | t :: u :: r, a, ⟨h1, _, h3, h4, h5⟩ => ⟨h1, by show t ≤ u - 1; omega, by show u - 1 ≤ topM; omega, prs_sep r _ (by show Inc (u - 1 + 2) r; rw [show u - 1 + 2 = u + 1 by omega]; exact h5)⟩
theorem prs_mem : ∀ (T : List Int) (a x : Int), Inc a T → x ≤ topM → memP (prs T) x = decide (cnt T x % 2 = 1)
  | [], _, _, _, _ => rfl
  | [t], a, x, ⟨h1, h2, _⟩, hx => by
    show ((decide (t ≤ x) && decide (x ≤ topM)) || memP [] x) = _
    rw [cnt_cons, show cnt [] x = 0 from rfl, decide_eq_true hx, memP_nil]
    by_cases h : t ≤ x <;> simp [h]
  | t :: u :: r, a, x, ⟨h1, h2, h3, h4, h5⟩, hx => by
    show ((decide (t ≤ x) && decide (x ≤ u - 1)) || memP (prs r) x) = _
    rw [cnt_cons, cnt_cons, prs_mem r _ x h5 hx]
    by_cases ht : t ≤ x
    · by_cases hu : u ≤ x
      · rw [if_pos ht, if_pos hu, decide_eq_false (by omega : ¬ x ≤ u - 1)]
        simp only [Bool.and_false, Bool.false_or]
        congr 1
        exact propext ⟨fun h => by omega, fun h => by omega⟩
      · rw [if_pos ht, if_neg hu, cnt_low h5 (by omega), decide_eq_true ht, decide_eq_true (by omega : x ≤ u - 1)]
        rfl
    · rw [if_neg ht, if_neg (by omega), cnt_low h5 (by omega), decide_eq_false ht]
      rfl
theorem prs_open : ∀ (T : List Int) (t : Int), T.length % 2 = 0 → prs (T ++ [t]) = prs T ++ [(t, topM)]
  | [], _, _ => rfl
  | [_], _, h => absurd h (by simp)
  | a :: b :: r, t, h => by
    show (a, b - 1) :: prs (r ++ [t]) = _
    rw [prs_open r t (by simp only [List.length_cons] at h; omega)]
    rfl
theorem prs_shut : ∀ (T : List Int) (t u : Int), T.length % 2 = 0 → prs (T ++ [t, u]) = prs T ++ [(t, u - 1)]
  | [], _, _, _ => rfl
  | [_], _, _, h => absurd h (by simp)
  | a :: b :: r, t, u, h => by
    show (a, b - 1) :: prs (r ++ [t, u]) = _
    rw [prs_shut r t u (by simp only [List.length_cons] at h; omega)]
    rfl
theorem prs_len : ∀ (T : List Int), 2 * (prs T).length ≤ T.length + 1
  | [] => by decide
  | [_] => by simp [prs]
  | _ :: _ :: r => by have := prs_len r; simp only [prs, List.length_cons]; omega

/-- An edge: where it is, of which list it is, how many more there are from there on. -/
abbrev Ed := Int × Int × Int
def dep (E : List Ed) (k x : Int) : Int := (E.map fun e => if e.2.1 = k ∧ e.1 ≤ x then e.2.2 else 0).sum
theorem dep_nil (k x : Int) : dep [] k x = 0 := rfl
theorem dep_cons (e : Ed) (E : List Ed) (k x : Int) : dep (e :: E) k x = (if e.2.1 = k ∧ e.1 ≤ x then e.2.2 else 0) + dep E k x := by unfold dep; rw [List.map_cons, List.sum_cons]
theorem dep_append (E F : List Ed) (k x : Int) : dep (E ++ F) k x = dep E k x + dep F k x := by
  induction E with
  | nil => rw [List.nil_append, dep_nil, Int.zero_add]
  | cons e E ih => rw [List.cons_append, dep_cons, dep_cons, ih, Int.add_assoc]
theorem dep_perm {E F : List Ed} (h : E.Perm F) (k x : Int) : dep E k x = dep F k x := by
  induction h with
  | nil => rfl
  | cons e _ ih => rw [dep_cons, dep_cons, ih]
  | swap a b l => rw [dep_cons, dep_cons, dep_cons, dep_cons]; omega
  | trans _ _ h1 h2 => rw [h1, h2]
theorem dep_low {E : List Ed} {k x : Int} (h : ∀ e ∈ E, x < e.1) : dep E k x = 0 := by
  induction E with
  | nil => rfl
  | cons e E ih =>
    rw [dep_cons, ih fun e he => h e (List.mem_cons_of_mem _ he), if_neg (fun hh => by have := h e (List.mem_cons_self); omega)]
    rfl
/-- So deep behind an edge. -/
def ad (k : Int) (e : Ed) (d : Int) : Int := d + if e.2.1 = k then e.2.2 else 0
theorem dep_at {e : Ed} {x : Int} (hx : e.1 ≤ x) (E : List Ed) (k d : Int) : d + dep (e :: E) k x = ad k e d + dep E k x := by
  unfold ad
  rw [dep_cons, ← Int.add_assoc]
  simp only [hx, and_true]
/-- Where a sweep turns. -/
def walkT (f : Bool → Bool → Bool) : List Ed → Int → Int → Bool → List Int
  | [], _, _, _ => []
  | e :: r, d0, d1, ins =>
    if r.head?.map (fun e => e.1) = some e.1 then walkT f r (ad 0 e d0) (ad 1 e d1) ins
    else if (f (decide (0 < ad 0 e d0)) (decide (0 < ad 1 e d1)) != ins) = true then e.1 :: walkT f r (ad 0 e d0) (ad 1 e d1) (!ins)
    else walkT f r (ad 0 e d0) (ad 1 e d1) ins
def Asc (E : List Ed) : Prop := E.Pairwise fun a b => a.1 ≤ b.1
theorem walkT_len (f : Bool → Bool → Bool) : ∀ (E : List Ed) (d0 d1 : Int) (ins : Bool), (walkT f E d0 d1 ins).length ≤ E.length := by
  intro E
  induction E with
  | nil => intro _ _ _; exact Nat.le_refl _
  | cons e r ih =>
    intro d0 d1 ins
    unfold walkT
    split
    · exact Nat.le_succ_of_le (ih _ _ _)
    · split
      · exact Nat.succ_le_succ (ih _ _ _)
      · exact Nat.le_succ_of_le (ih _ _ _)
theorem asc_gt {e : Ed} {r : List Ed} (h : Asc (e :: r)) (hn : ¬ r.head?.map (fun e => e.1) = some e.1) : ∀ b ∈ r, e.1 + 1 ≤ b.1 := by
  intro b hb
  have h1 := List.pairwise_cons.1 h
  cases r with
  | nil => cases hb
  | cons c t =>
    have hc := h1.1 c (List.mem_cons_self)
    have hne : c.1 ≠ e.1 := fun hh => hn (by simp [hh])
    rcases List.mem_cons.1 hb with rfl | hb
    · omega
    · have := (List.pairwise_cons.1 h1.2).1 b hb
      omega
theorem walkT_inc (f : Bool → Bool → Bool) : ∀ (E : List Ed) (a d0 d1 : Int) (ins : Bool), Asc E → (∀ e ∈ E, a ≤ e.1 ∧ e.1 ≤ topM) → Inc a (walkT f E d0 d1 ins) := by
  intro E
  induction E with
  | nil => intro _ _ _ _ _ _; trivial
  | cons e r ih =>
    intro a d0 d1 ins hA hR
    have hA2 := (List.pairwise_cons.1 hA).2
    have hR2 : ∀ b ∈ r, a ≤ b.1 ∧ b.1 ≤ topM := fun b hb => hR b (List.mem_cons_of_mem _ hb)
    have he := hR e (List.mem_cons_self)
    unfold walkT
    split
    · exact ih _ _ _ _ hA2 hR2
    · rename_i hn
      split
      · exact ⟨he.1, he.2, ih _ _ _ _ hA2 fun b hb => ⟨asc_gt hA hn b hb, (hR2 b hb).2⟩⟩
      · exact ih _ _ _ _ hA2 hR2
theorem walkT_mem (f : Bool → Bool → Bool) : ∀ (E : List Ed) (e : Ed) (d0 d1 : Int) (ins : Bool) (x : Int), Asc (e :: E) → (∀ b ∈ e :: E, b.1 ≤ topM) → e.1 ≤ x →
    f (decide (0 < d0 + dep (e :: E) 0 x)) (decide (0 < d1 + dep (e :: E) 1 x)) = (ins != decide (cnt (walkT f (e :: E) d0 d1 ins) x % 2 = 1)) := by
  intro E
  induction E with
  | nil =>
    intro e d0 d1 ins x _ _ hx
    rw [dep_at hx, dep_at hx, dep_nil, dep_nil, Int.add_zero, Int.add_zero]
    unfold walkT
    rw [if_neg (by simp)]
    generalize f _ _ = q
    cases q <;> cases ins <;> simp [walkT, cnt, hx]
  | cons c r ih =>
    intro e d0 d1 ins x hA hR hx
    have hA2 := (List.pairwise_cons.1 hA).2
    have hR2 : ∀ b ∈ c :: r, b.1 ≤ topM := fun b hb => hR b (List.mem_cons_of_mem _ hb)
    rw [dep_at hx, dep_at hx]
    unfold walkT
    by_cases hn : (c :: r).head?.map (fun e => e.1) = some e.1
    · rw [if_pos hn]
      have hce : c.1 = e.1 := by simpa using hn
      exact ih c _ _ ins x hA2 hR2 (by omega)
    · rw [if_neg hn]
      have hgt := asc_gt hA hn
      by_cases hc : c.1 ≤ x
      · have key := fun i => ih c (ad 0 e d0) (ad 1 e d1) i x hA2 hR2 hc
        split
        · rw [cnt_cons, if_pos hx, key (!ins)]
          generalize cnt (walkT f (c :: r) _ _ (!ins)) x = n
          rcases Nat.mod_two_eq_zero_or_one n with h | h
          · rw [h, show (n + 1) % 2 = 1 by omega]; cases ins <;> rfl
          · rw [h, show (n + 1) % 2 = 0 by omega]; cases ins <;> rfl
        · exact key ins
      · have hlow : ∀ b ∈ c :: r, x < b.1 := by
          intro b hb
          rcases List.mem_cons.1 hb with rfl | hb
          · omega
          · have := (List.pairwise_cons.1 hA2).1 b hb
            omega
        rw [dep_low hlow, dep_low hlow, Int.add_zero, Int.add_zero]
        have hz := fun d d' i => cnt_low (x := x) (walkT_inc f (c :: r) (x + 1) d d' i hA2 fun b hb => ⟨by have := hlow b hb; omega, hR2 b hb⟩) (by omega)
        generalize hq : f _ _ = q
        split
        · rename_i hs
          rw [cnt_cons, if_pos hx, hz]
          revert hs
          cases q <;> cases ins <;> simp
        · rename_i hs
          rw [hz]
          revert hs
          cases q <;> cases ins <;> simp

/-- The edges of a span. -/
def edgesOf (k : Int) (s : Sp) : List Ed := if loE s ≤ hiE s then (loE s, k, 1) :: (if hiE s < topM then [(hiE s + 1, k, -1)] else []) else []
theorem dep_edges (k j x : Int) (s : Sp) (hx : x ≤ topM) : dep (edgesOf k s) j x = if k = j ∧ loE s ≤ x ∧ x ≤ hiE s then 1 else 0 := by
  unfold edgesOf
  split
  · split
    · rw [dep_cons, dep_cons, dep_nil]
      simp only
      split <;> split <;> split <;> omega
    · rw [dep_cons, dep_nil]
      simp only
      split <;> split <;> omega
  · rw [dep_nil, if_neg (by omega)]
theorem dep_flat (k j x : Int) (hx : x ≤ topM) : ∀ (A : List Sp), 0 ≤ dep (A.flatMap (edgesOf k)) j x ∧ (k ≠ j → dep (A.flatMap (edgesOf k)) j x = 0) ∧ (k = j → decide (0 < dep (A.flatMap (edgesOf k)) j x) = memS A x) := by
  intro A
  induction A with
  | nil => exact ⟨Int.le_refl _, fun _ => rfl, fun _ => rfl⟩
  | cons s A ih =>
    obtain ⟨h1, h2, h3⟩ := ih
    rw [List.flatMap_cons, dep_append, dep_edges k j x s hx, memS_cons]
    by_cases hk : k = j
    · subst hk
      have h3' := h3 rfl
      by_cases hs : loE s ≤ x ∧ x ≤ hiE s
      · rw [if_pos ⟨rfl, hs⟩, decide_eq_true hs.1, decide_eq_true hs.2]
        exact ⟨by omega, fun h => absurd rfl h, fun _ => by rw [decide_eq_true (by omega)]; rfl⟩
      · rw [if_neg (fun h => hs h.2), Int.zero_add, h3']
        refine ⟨h1, fun h => absurd rfl h, fun _ => ?_⟩
        by_cases a : loE s ≤ x
        · rw [decide_eq_false (fun b => hs ⟨a, b⟩)]; simp
        · rw [decide_eq_false a]; simp
    · rw [if_neg (fun h => hk h.1), h2 hk]
      exact ⟨Int.le_refl _, fun _ => rfl, fun h => absurd h hk⟩
theorem edges_mem {k : Int} {s : Sp} (h : SpR s) : ∀ e ∈ edgesOf k s, -topM ≤ e.1 ∧ e.1 ≤ topM := by
  have h1 := h.lo
  have h2 := h.hi
  intro e he
  unfold edgesOf at he
  split at he
  · rcases List.mem_cons.1 he with rfl | he
    · exact h1
    · split at he
      · obtain rfl := List.mem_singleton.1 he
        exact ⟨by simp only; omega, by simp only; omega⟩
      · cases he
  · cases he
theorem edges_len (k : Int) (s : Sp) : (edgesOf k s).length ≤ 2 := by
  unfold edgesOf
  split
  · split <;> simp
  · simp
theorem flat_len (k : Int) (A : List Sp) : (A.flatMap (edgesOf k)).length ≤ 2 * A.length := by
  induction A with
  | nil => exact Nat.le_refl _
  | cons s A ih => rw [List.flatMap_cons, List.length_append, List.length_cons]; have := edges_len k s; omega
/-- All edges of two lists. -/
def allE (A B : List Sp) : List Ed := (-topM, 0, 0) :: (A.flatMap (edgesOf 0) ++ B.flatMap (edgesOf 1))
theorem allE_len (A B : List Sp) : (allE A B).length ≤ 1 + 2 * A.length + 2 * B.length := by
  unfold allE
  rw [List.length_cons, List.length_append]
  have := flat_len 0 A
  have := flat_len 1 B
  omega
theorem allE_mem {A B : List Sp} (hA : ∀ s ∈ A, SpR s) (hB : ∀ s ∈ B, SpR s) : ∀ e ∈ allE A B, -topM ≤ e.1 ∧ e.1 ≤ topM := by
  intro e he
  have := topM_pos
  rcases List.mem_cons.1 he with rfl | he
  · exact ⟨Int.le_refl _, by simp only; omega⟩
  · rcases List.mem_append.1 he with he | he
    · obtain ⟨s, hs, hm⟩ := List.mem_flatMap.1 he
      exact edges_mem (hA s hs) e hm
    · obtain ⟨s, hs, hm⟩ := List.mem_flatMap.1 he
      exact edges_mem (hB s hs) e hm
theorem allE_dep (A B : List Sp) (x : Int) (hx : x ≤ topM) : decide (0 < dep (allE A B) 0 x) = memS A x ∧ decide (0 < dep (allE A B) 1 x) = memS B x := by
  unfold allE
  rw [dep_cons, dep_cons, dep_append, dep_append]
  have z : ∀ k : Int, (if ((-topM, 0, 0) : Ed).2.1 = k ∧ ((-topM, 0, 0) : Ed).1 ≤ x then ((-topM, 0, 0) : Ed).2.2 else 0) = 0 := fun k => by split <;> rfl
  rw [z, z, Int.zero_add, Int.zero_add]
  obtain ⟨_, a2, a3⟩ := dep_flat 0 0 x hx A
  obtain ⟨_, b2, _⟩ := dep_flat 1 0 x hx B
  obtain ⟨_, c2, _⟩ := dep_flat 0 1 x hx A
  obtain ⟨_, _, d3⟩ := dep_flat 1 1 x hx B
  rw [b2 (by decide), c2 (by decide), Int.add_zero, Int.zero_add]
  exact ⟨a3 rfl, d3 rfl⟩
/-- What a sweep tells is the set. -/
theorem sweep_spec (f : Bool → Bool → Bool) {A B : List Sp} {E : List Ed} (hA : ∀ s ∈ A, SpR s) (hB : ∀ s ∈ B, SpR s) (hp : E.Perm (allE A B)) (hs : Asc E) :
    IsN (prs (walkT f E 0 0 false)) (fun x => f (memS A x) (memS B x)) ∧ (prs (walkT f E 0 0 false)).length ≤ 1 + A.length + B.length := by
  have hR : ∀ e ∈ E, -topM ≤ e.1 ∧ e.1 ≤ topM := fun e he => allE_mem hA hB e (hp.mem_iff.1 he)
  have hI := walkT_inc f E (-topM) 0 0 false hs hR
  refine ⟨⟨prs_sep _ _ hI, fun x h1 h2 => ?_⟩, ?_⟩
  · rw [prs_mem _ _ x hI h2]
    obtain ⟨e1, e2⟩ := allE_dep A B x h2
    rw [← dep_perm hp] at e1 e2
    have hm : (-topM, 0, 0) ∈ E := hp.mem_iff.2 (List.mem_cons_self)
    cases E with
    | nil => cases hm
    | cons e r =>
      have he : e.1 ≤ x := by
        rcases List.mem_cons.1 hm with h | h
        · rw [← h]; exact h1
        · have := (List.pairwise_cons.1 hs).1 _ h
          exact Int.le_trans this h1
      have := walkT_mem f r e 0 0 false x hs (fun b hb => (hR b hb).2) he
      rw [Int.zero_add, Int.zero_add, e1, e2] at this
      show _ = f (memS A x) (memS B x)
      rw [this]
      simp
  · have h1 := prs_len (walkT f E 0 0 false)
    have h2 := walkT_len f E 0 0 false
    have h3 := hp.length_eq
    have h4 := allE_len A B
    omega
end Go.Proofs.YtjlgiejggcbgbaaGreatDoor
