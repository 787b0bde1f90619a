/-
  SpRM SpRA SpRC, one behind the other: a claim holds at most 60 files.
-/
import Derived.Test.YtjlgiejggcbgbaaGreatDoorSpMath
import Derived.Test.YtjlgiejggcbgbaaGreatDoorSZ
section
namespace Go.Proofs.YtjlgiejggcbgbaaGreatDoor

theorem sep_put : ∀ {Q : List (Int × Int)} {a : Int} {p : Int × Int}, Sep a Q → a ≤ p.1 → p.1 ≤ p.2 → p.2 ≤ topM → (∀ q ∈ Q, q.2 + 2 ≤ p.1) → Sep a (Q ++ [p])
  | [], a, p, _, h1, h2, h3, _ => ⟨h1, h2, h3, trivial⟩
  | q :: r, a, p, ⟨g1, g2, g3, g4⟩, h1, h2, h3, h4 => ⟨g1, g2, g3, sep_put g4 (h4 q (by simp)) h2 h3 (fun x hx => h4 x (by simp [hx]))⟩
theorem sep_cut : ∀ {Q : List (Int × Int)} {a : Int} {p : Int × Int}, Sep a (Q ++ [p]) → Sep a Q ∧ a ≤ p.1 ∧ p.1 ≤ p.2 ∧ p.2 ≤ topM ∧ ∀ q ∈ Q, q.2 + 2 ≤ p.1
  | [], a, p, ⟨h1, h2, h3, _⟩ => ⟨trivial, h1, h2, h3, by simp⟩
  | q :: r, a, p, ⟨g1, g2, g3, g4⟩ => by
    obtain ⟨k1, k2, k3, k4, k5⟩ := sep_cut g4
    refine ⟨⟨g1, g2, g3, k1⟩, by omega, k3, k4, fun x hx => ?_⟩
    rcases List.mem_cons.1 hx with rfl | hx
    · omega
    · exact k5 x hx
theorem sep_join : ∀ {L M : List (Int × Int)} {a b : Int}, Sep a L → (∀ q ∈ L, q.2 ≤ b) → a ≤ b + 2 → Sep (b + 2) M → Sep a (L ++ M)
  | [], M, a, b, _, _, hab, h => h.mono hab
  | q :: r, M, a, b, ⟨g1, g2, g3, g4⟩, h, hab, k => ⟨g1, g2, g3, sep_join g4 (fun x hx => h x (by simp [hx])) (by have := h q (by simp); omega) k⟩
theorem memP_one (p : Int × Int) (x : Int) : memP [p] x = (decide (p.1 ≤ x) && decide (x ≤ p.2)) := by rw [memP_cons, memP_nil, Bool.or_false]
theorem memP_perm {L M : List (Int × Int)} (h : L.Perm M) (x : Int) : memP L x = memP M x := by
  unfold memP
  rw [Bool.eq_iff_iff, List.any_eq_true, List.any_eq_true]
  exact ⟨fun ⟨p, h1, h2⟩ => ⟨p, h.mem_iff.1 h1, h2⟩, fun ⟨p, h1, h2⟩ => ⟨p, h.mem_iff.2 h1, h2⟩⟩

/-- Pairs in the order of their beginnings, none empty, all within what there is. -/
structure Srt (L : List (Int × Int)) : Prop where
  asc : L.Pairwise fun p q => p.1 ≤ q.1
  rng : ∀ p ∈ L, -topM ≤ p.1 ∧ p.1 ≤ p.2 ∧ p.2 ≤ topM
theorem Srt.nil : Srt [] := ⟨List.Pairwise.nil, by simp⟩
/-- One put in at its place. -/
theorem Srt.put {L : List (Int × Int)} (h : Srt L) {p : Int × Int} (hp : -topM ≤ p.1 ∧ p.1 ≤ p.2 ∧ p.2 ≤ topM) {k : Nat} (hk : k ≤ L.length) (h1 : ∀ j q, L[j]? = some q → k ≤ j → p.1 < q.1) (h2 : ∀ q, 0 < k → L[k - 1]? = some q → q.1 ≤ p.1) :
    Srt (L.take k ++ (p :: L.drop k)) := by
  have hlo : ∀ q ∈ L.take k, q.1 ≤ p.1 := by
    intro q hq
    obtain ⟨j, hj, rfl⟩ := List.getElem_of_mem hq
    rw [List.length_take] at hj
    rw [List.getElem_take]
    have e : L[k - 1]? = some (L[k - 1]'(by omega)) := List.getElem?_eq_getElem (by omega)
    have := h2 _ (by omega) e
    by_cases hjk : j = k - 1
    · subst hjk; exact this
    · exact Int.le_trans (List.pairwise_iff_getElem.1 h.asc j (k - 1) (by omega) (by omega) (by omega)) this
  have hhi : ∀ q ∈ L.drop k, p.1 ≤ q.1 := by
    intro q hq
    obtain ⟨j, hj, rfl⟩ := List.getElem_of_mem hq
    rw [List.length_drop] at hj
    rw [List.getElem_drop]
    exact Int.le_of_lt (h1 (k + j) _ (List.getElem?_eq_getElem (by omega)) (by omega))
  refine ⟨?_, ?_⟩
  · rw [List.pairwise_append]
    refine ⟨h.asc.sublist (List.take_sublist _ _), ?_, ?_⟩
    · rw [List.pairwise_cons]
      exact ⟨hhi, h.asc.sublist (List.drop_sublist _ _)⟩
    · intro a ha b hb
      rcases List.mem_cons.1 hb with rfl | hb
      · exact hlo a ha
      · exact Int.le_trans (hlo a ha) (hhi b hb)
  · intro q hq
    rcases List.mem_append.1 hq with hq | hq
    · exact h.rng q (List.mem_of_mem_take hq)
    · rcases List.mem_cons.1 hq with rfl | hq
      · exact hp
      · exact h.rng q (List.mem_of_mem_drop hq)
theorem put_mem (L : List (Int × Int)) (p : Int × Int) (k : Nat) (x : Int) : memP (L.take k ++ (p :: L.drop k)) x = (memP L x || memP [p] x) := by
  have e : memP L x = (memP (L.take k) x || memP (L.drop k) x) := by rw [← memP_append, List.take_append_drop]
  rw [memP_append, memP_cons, memP_one, e]
  cases memP (L.take k) x <;> cases memP (L.drop k) x <;> cases (decide (p.1 ≤ x) && decide (x ≤ p.2)) <;> rfl

/-- What the merging has made of the first i of L. -/
structure Mrg (L : List (Int × Int)) (i : Nat) (Q : List (Int × Int)) : Prop where
  sep : Sep (-topM) Q
  mem : ∀ x, memP Q x = memP (L.take i) x
  low : ∀ q ∈ Q, ∀ p ∈ L.drop i, q.1 ≤ p.1
  len : Q.length ≤ i
theorem Mrg.start (L : List (Int × Int)) : Mrg L 0 [] := ⟨trivial, fun x => by simp, by simp, Nat.le_refl _⟩
theorem memP_snoc_take {L : List (Int × Int)} {i : Nat} {p : Int × Int} (h : L[i]? = some p) (x : Int) : memP (L.take (i + 1)) x = (memP (L.take i) x || memP [p] x) := by
  obtain ⟨hk, rfl⟩ := List.getElem?_eq_some_iff.1 h
  rw [List.take_succ_eq_append_getElem hk, memP_append]
theorem drop_at {α : Type} {L : List α} {i : Nat} {p : α} (h : L[i]? = some p) : L.drop i = p :: L.drop (i + 1) := by
  obtain ⟨hk, rfl⟩ := List.getElem?_eq_some_iff.1 h
  exact List.drop_eq_getElem_cons hk
theorem low_next {L : List (Int × Int)} (hL : Srt L) {i : Nat} {p : Int × Int} (h : L[i]? = some p) : ∀ q ∈ L.drop (i + 1), p.1 ≤ q.1 := by
  have := hL.asc.sublist (List.drop_sublist i L)
  rw [drop_at h, List.pairwise_cons] at this
  exact this.1
/-- A pair that stands apart is put behind. -/
theorem Mrg.new {L Q : List (Int × Int)} {i : Nat} (hL : Srt L) (h : Mrg L i Q) {p : Int × Int} (hp : L[i]? = some p) (hq : ∀ q ∈ Q, q.2 + 2 ≤ p.1) : Mrg L (i + 1) (Q ++ [p]) := by
  obtain ⟨r1, r2, r3⟩ := hL.rng p (List.mem_of_getElem? hp)
  refine ⟨sep_put h.sep r1 r2 r3 hq, fun x => by rw [memP_append, h.mem, memP_snoc_take hp], ?_, by have := h.len; simp; omega⟩
  intro q hq' r hr
  rcases List.mem_append.1 hq' with hq' | hq'
  · exact h.low q hq' r (by rw [drop_at hp]; exact List.mem_cons_of_mem _ hr)
  · obtain rfl := List.mem_singleton.1 hq'
    exact low_next hL hp r hr
/-- A pair that touches the last one is taken into it. -/
theorem Mrg.take {L Q : List (Int × Int)} {i : Nat} {a b c : Int} (hL : Srt L) (h : Mrg L i (Q ++ [(a, b)])) {p : Int × Int} (hp : L[i]? = some p) (ht : b = topM ∨ p.1 ≤ b + 1) (hc : c = if b < p.2 then p.2 else b) : Mrg L (i + 1) (Q ++ [(a, c)]) := by
  obtain ⟨r1, r2, r3⟩ := hL.rng p (List.mem_of_getElem? hp)
  obtain ⟨k1, k2, k3, k4, k5⟩ := sep_cut h.sep
  simp only at k2 k3 k4 k5
  have hlow : a ≤ p.1 := h.low (a, b) (by simp) p (by rw [drop_at hp]; simp)
  have hab : a ≤ c ∧ c ≤ topM ∧ b ≤ c ∧ p.2 ≤ c ∧ (c = b ∨ c = p.2) := by subst hc; split <;> (refine ⟨?_, ?_, ?_, ?_, ?_⟩ <;> omega)
  obtain ⟨c1, c2, c3, c4, c5⟩ := hab
  refine ⟨sep_put k1 k2 c1 c2 k5, fun x => ?_, ?_, ?_⟩
  · have e := h.mem x
    rw [memP_append, memP_one] at e
    rw [memP_append, memP_snoc_take hp, ← e, memP_one, memP_one, Bool.or_assoc]
    congr 1
    rw [Bool.eq_iff_iff]
    simp
    omega
  · intro q hq r hr
    rcases List.mem_append.1 hq with hq | hq
    · exact h.low q (by simp [hq]) r (by rw [drop_at hp]; exact List.mem_cons_of_mem _ hr)
    · obtain rfl := List.mem_singleton.1 hq
      exact h.low (a, b) (by simp) r (by rw [drop_at hp]; exact List.mem_cons_of_mem _ hr)
  · have := h.len
    simp at this ⊢
    omega

/-- The numbers from one on that are in none of some pairs. -/
def compl : Int → List (Int × Int) → List (Int × Int)
  | a, [] => [(a, topM)]
  | a, p :: r => (if a ≤ p.1 - 1 then [(a, p.1 - 1)] else []) ++ (if p.2 < topM then compl (p.2 + 1) r else [])
theorem compl_sep : ∀ {P : List (Int × Int)} {a : Int}, a ≤ topM → Sep a P → Sep a (compl a P)
  | [], a, ha, _ => ⟨Int.le_refl _, ha, Int.le_refl _, trivial⟩
  | p :: r, a, ha, ⟨h1, h2, h3, h4⟩ => by
    have key : Sep (p.2 + 1) (if p.2 < topM then compl (p.2 + 1) r else []) := by
      split
      · exact compl_sep (by omega) (h4.mono (by omega))
      · trivial
    unfold compl
    split
    · exact ⟨Int.le_refl _, by omega, by omega, key.mono (by omega)⟩
    · exact key.mono (by omega)
theorem compl_mem : ∀ {P : List (Int × Int)} {a : Int}, Sep a P → ∀ x, a ≤ x → x ≤ topM → memP (compl a P) x = !memP P x
  | [], a, _, x, h1, h2 => by
    unfold compl
    rw [memP_one, decide_eq_true h1, decide_eq_true h2]
    rfl
  | p :: r, a, ⟨h1, h2, h3, h4⟩, x, hx, hx2 => by
    have e1 : memP (if a ≤ p.1 - 1 then [(a, p.1 - 1)] else []) x = decide (x ≤ p.1 - 1) := by
      split
      · rw [memP_one, decide_eq_true hx]; rfl
      · rw [memP_nil]; symm; exact decide_eq_false (by omega)
    have e2 : memP (if p.2 < topM then compl (p.2 + 1) r else []) x = (decide (p.2 + 1 ≤ x) && !memP r x) := by
      by_cases hp : p.2 < topM
      · rw [if_pos hp]
        by_cases hpx : p.2 + 1 ≤ x
        · rw [compl_mem (h4.mono (by omega)) x hpx hx2, decide_eq_true hpx]; rfl
        · rw [decide_eq_false hpx, memP_low (compl_sep (by omega) (h4.mono (show p.2 + 1 ≤ p.2 + 2 by omega))) (by omega)]; rfl
      · rw [if_neg hp, memP_nil, decide_eq_false (by omega)]; rfl
    unfold compl
    rw [memP_append, e1, e2, memP_cons]
    by_cases c1 : x ≤ p.1 - 1
    · rw [decide_eq_true c1, decide_eq_false (show ¬ p.1 ≤ x by omega), memP_low h4 (show x < p.2 + 2 by omega)]; rfl
    · by_cases c2 : p.2 + 1 ≤ x
      · rw [decide_eq_false c1, decide_eq_true c2, decide_eq_false (show ¬ x ≤ p.2 by omega)]; simp
      · rw [decide_eq_false c1, decide_eq_false c2, decide_eq_true (show p.1 ≤ x by omega), decide_eq_true (show x ≤ p.2 by omega)]; rfl
theorem compl_len : ∀ (P : List (Int × Int)) (a : Int), (compl a P).length ≤ P.length + 1
  | [], _ => Nat.le_refl _
  | p :: r, a => by
    unfold compl
    rw [List.length_append]
    have := compl_len r (p.2 + 1)
    split <;> split <;> simp <;> omega
theorem compl_isN {P : List (Int × Int)} {f : Int → Bool} (h : IsN P f) : IsN (compl (-topM) P) (fun x => !f x) :=
  ⟨compl_sep (by decide) h.1, fun x h1 h2 => by rw [compl_mem h.1 x h1 h2, h.2 x h1 h2]⟩

/-- Two pairs, met. -/
def meet2 (p q : Int × Int) : Int × Int := (if p.1 < q.1 then q.1 else p.1, if q.2 < p.2 then q.2 else p.2)
def meetR (p : Int × Int) (Q : List (Int × Int)) : List (Int × Int) := (Q.map (meet2 p)).filter fun r => decide (r.1 ≤ r.2)
def meetL (P Q : List (Int × Int)) : List (Int × Int) := P.flatMap fun p => meetR p Q
theorem meetR_sep {p : Int × Int} (hp : p.2 ≤ topM) : ∀ {Q : List (Int × Int)} {a : Int}, Sep a Q → ∀ b, b ≤ p.1 ∨ b ≤ a → Sep b (meetR p Q)
  | [], _, _, _, _ => trivial
  | q :: r, a, ⟨h1, h2, h3, h4⟩, b, hb => by
    have ih := meetR_sep hp h4
    have e : meetR p (q :: r) = if (meet2 p q).1 ≤ (meet2 p q).2 then meet2 p q :: meetR p r else meetR p r := by
      unfold meetR
      rw [List.map_cons, List.filter_cons]
      by_cases h : (meet2 p q).1 ≤ (meet2 p q).2 <;> simp [h]
    have m1 : p.1 ≤ (meet2 p q).1 ∧ q.1 ≤ (meet2 p q).1 := by unfold meet2; simp only; split <;> omega
    have m2 : (meet2 p q).2 ≤ p.2 ∧ (meet2 p q).2 ≤ q.2 := by unfold meet2; simp only; split <;> omega
    rw [e]
    split
    · exact ⟨by omega, by assumption, by omega, ih _ (.inr (by omega))⟩
    · exact ih b (by omega)
theorem meetR_rng (p : Int × Int) (Q : List (Int × Int)) : ∀ q ∈ meetR p Q, q.2 ≤ p.2 := by
  intro q hq
  unfold meetR at hq
  obtain ⟨h1, _⟩ := List.mem_filter.1 hq
  obtain ⟨r, _, rfl⟩ := List.mem_map.1 h1
  unfold meet2
  simp only
  split <;> omega
theorem meetR_mem (p : Int × Int) : ∀ (Q : List (Int × Int)) (x : Int), memP (meetR p Q) x = ((decide (p.1 ≤ x) && decide (x ≤ p.2)) && memP Q x)
  | [], x => by simp [meetR, memP]
  | q :: r, x => by
    have e : meetR p (q :: r) = (if (meet2 p q).1 ≤ (meet2 p q).2 then [meet2 p q] else []) ++ meetR p r := by
      unfold meetR
      rw [List.map_cons, List.filter_cons]
      by_cases h : (meet2 p q).1 ≤ (meet2 p q).2 <;> simp [h]
    have m : memP (if (meet2 p q).1 ≤ (meet2 p q).2 then [meet2 p q] else []) x = ((decide (p.1 ≤ x) && decide (x ≤ p.2)) && (decide (q.1 ≤ x) && decide (x ≤ q.2))) := by
      have m1 : (meet2 p q).1 ≤ x ↔ p.1 ≤ x ∧ q.1 ≤ x := by unfold meet2; simp only; split <;> omega
      have m2 : x ≤ (meet2 p q).2 ↔ x ≤ p.2 ∧ x ≤ q.2 := by unfold meet2; simp only; split <;> omega
      split
      · rw [memP_one, Bool.eq_iff_iff]
        simp [m1, m2]
        omega
      · rw [memP_nil]
        symm
        rw [← Bool.not_eq_true]
        intro hc
        simp at hc
        have a1 := m1.2 ⟨hc.1.1, hc.2.1⟩
        have a2 := m2.2 ⟨hc.1.2, hc.2.2⟩
        omega
    rw [e, memP_append, m, meetR_mem p r x, memP_cons, Bool.and_or_distrib_left]
theorem meetL_sep : ∀ {P Q : List (Int × Int)} {a : Int}, Sep a P → Sep (-topM) Q → Sep a (meetL P Q)
  | [], _, _, _, _ => trivial
  | p :: r, Q, a, ⟨h1, h2, h3, h4⟩, hQ => by
    unfold meetL
    rw [List.flatMap_cons]
    exact sep_join (meetR_sep h3 hQ a (.inl h1)) (meetR_rng p Q) (by omega) (meetL_sep h4 hQ)
theorem meetL_mem : ∀ (P Q : List (Int × Int)) (x : Int), memP (meetL P Q) x = (memP P x && memP Q x)
  | [], Q, x => rfl
  | p :: r, Q, x => by
    have e : meetL (p :: r) Q = meetR p Q ++ meetL r Q := by unfold meetL; rw [List.flatMap_cons]
    rw [e, memP_append, meetR_mem, meetL_mem r Q x, memP_cons, Bool.and_or_distrib_right]
theorem meetL_isN {P Q : List (Int × Int)} {f g : Int → Bool} (h : IsN P f) (k : IsN Q g) : IsN (meetL P Q) (fun x => f x && g x) :=
  ⟨meetL_sep h.1 k.1, fun x h1 h2 => by rw [meetL_mem, h.2 x h1 h2, k.2 x h1 h2]⟩
theorem meetR_snoc {p : Int × Int} {Q : List (Int × Int)} {k : Nat} {q : Int × Int} (h : Q[k]? = some q) : meetR p (Q.take (k + 1)) = meetR p (Q.take k) ++ if (meet2 p q).1 ≤ (meet2 p q).2 then [meet2 p q] else [] := by
  obtain ⟨hk, rfl⟩ := List.getElem?_eq_some_iff.1 h
  unfold meetR
  rw [List.take_succ_eq_append_getElem hk, List.map_append, List.filter_append]
  congr 1
  by_cases h : (meet2 p Q[k]).1 ≤ (meet2 p Q[k]).2 <;> simp [h]
theorem meetL_snoc {P Q : List (Int × Int)} {i : Nat} {p : Int × Int} (h : P[i]? = some p) : meetL (P.take (i + 1)) Q = meetL (P.take i) Q ++ meetR p Q := by
  obtain ⟨hk, rfl⟩ := List.getElem?_eq_some_iff.1 h
  unfold meetL
  rw [List.take_succ_eq_append_getElem hk, List.flatMap_append]
  simp
theorem meetR_len (p : Int × Int) (Q : List (Int × Int)) : (meetR p Q).length ≤ Q.length := by
  unfold meetR
  exact Nat.le_trans (List.length_filter_le _ _) (by simp)
end Go.Proofs.YtjlgiejggcbgbaaGreatDoor
end
section
namespace Go.Proofs.YtjlgiejggcbgbaaGreatDoor
open Go.RowKit Go.Shelf
attribute [local go_sem ↓] eql_nat neq_nat eql_int5 neq_int5

set_option maxRecDepth 100000 in
set_option maxHeartbeats 4000000 in
theorem rof_tt (g : Bool) (x0 x1 x2 x3 : Int) (h : Bool) (y0 y1 y2 y3 : Int) (w : World) (h1 : eq5 g x0 x1 x2 x3 true 18446744073709551615 18446744073709551615 18446744073709551615 18446744073709551615 = true) (h2 : eq5 h y0 y1 y2 y3 false 18446744073709551615 18446744073709551615 18446744073709551615 18446744073709551615 = true) :
    Calls Tryz.prog 46 #[.agg #[.bool g, .int .u64 x0, .int .u64 x1, .int .u64 x2, .int .u64 x3], .agg #[.bool h, .int .u64 y0, .int .u64 y1, .int .u64 y2, .int .u64 y3]] w fun e w' => e = .returned (V12 false false false 0 0 0 0 false 0 0 0 0) ∧ Below w.heap.size w w' := by
  go_enter Tryz.func46, Tryz.ntmps46
  go_wp2
  go_region_held3 (fun w' => w'.cell? ⟨w.heap.size, 0, none⟩ = some (.bool g) ∧ w'.cell? ⟨w.heap.size, 1, none⟩ = some (.int .u64 x0) ∧ w'.cell? ⟨w.heap.size, 2, none⟩ = some (.int .u64 x1) ∧ w'.cell? ⟨w.heap.size, 3, none⟩ = some (.int .u64 x2) ∧ w'.cell? ⟨w.heap.size, 4, none⟩ = some (.int .u64 x3) ∧ w'.cell? ⟨w.heap.size + 1, 0, none⟩ = some (.bool h) ∧ w'.cell? ⟨w.heap.size + 1, 1, none⟩ = some (.int .u64 y0) ∧ w'.cell? ⟨w.heap.size + 1, 2, none⟩ = some (.int .u64 y1) ∧ w'.cell? ⟨w.heap.size + 1, 3, none⟩ = some (.int .u64 y2) ∧ w'.cell? ⟨w.heap.size + 1, 4, none⟩ = some (.int .u64 y3)) (simp [go_sem, World.cell?_alloc_past]) (first | (go_at_call 47; refine (rend_any _ _).mono ?_; rintro e w3 ⟨rfl, o3, rfl⟩))
  all_goals
    go_wp2
    exact bodyPost_ret (v := .agg #[.bool false, .bool false, .bool false, .int .u64 0, .int .u64 0, .int .u64 0, .int .u64 0, .bool false, .int .u64 0, .int .u64 0, .int .u64 0, .int .u64 0]) (by simp [results, Tryz.results46, go_sem]) rfl ⟨rfl, (by repeat (first | (with_reducible exact Below.refl _ _) | (with_reducible refine bal ?_ _) | (with_reducible refine Below.drew ?_) | (with_reducible refine bdn ?_ _) | ((with_reducible refine bsc ?_ ?_ _); rotate_left; (focus (simp only []; omega)))))⟩
set_option maxRecDepth 100000 in
set_option maxHeartbeats 4000000 in
theorem rof_tf (g : Bool) (x0 x1 x2 x3 : Int) (h : Bool) (y0 y1 y2 y3 : Int) (w : World) (h1 : eq5 g x0 x1 x2 x3 true 18446744073709551615 18446744073709551615 18446744073709551615 18446744073709551615 = true) (h2 : eq5 h y0 y1 y2 y3 false 18446744073709551615 18446744073709551615 18446744073709551615 18446744073709551615 = false) :
    Calls Tryz.prog 46 #[.agg #[.bool g, .int .u64 x0, .int .u64 x1, .int .u64 x2, .int .u64 x3], .agg #[.bool h, .int .u64 y0, .int .u64 y1, .int .u64 y2, .int .u64 y3]] w fun e w' => e = .returned (V12 false true false 0 0 0 0 h y0 y1 y2 y3) ∧ Below w.heap.size w w' := by
  go_enter Tryz.func46, Tryz.ntmps46
  go_wp2
  go_region_held3 (fun w' => w'.cell? ⟨w.heap.size, 0, none⟩ = some (.bool g) ∧ w'.cell? ⟨w.heap.size, 1, none⟩ = some (.int .u64 x0) ∧ w'.cell? ⟨w.heap.size, 2, none⟩ = some (.int .u64 x1) ∧ w'.cell? ⟨w.heap.size, 3, none⟩ = some (.int .u64 x2) ∧ w'.cell? ⟨w.heap.size, 4, none⟩ = some (.int .u64 x3) ∧ w'.cell? ⟨w.heap.size + 1, 0, none⟩ = some (.bool h) ∧ w'.cell? ⟨w.heap.size + 1, 1, none⟩ = some (.int .u64 y0) ∧ w'.cell? ⟨w.heap.size + 1, 2, none⟩ = some (.int .u64 y1) ∧ w'.cell? ⟨w.heap.size + 1, 3, none⟩ = some (.int .u64 y2) ∧ w'.cell? ⟨w.heap.size + 1, 4, none⟩ = some (.int .u64 y3)) (simp [go_sem, World.cell?_alloc_past]) (first | (go_at_call 47; refine (rend_any _ _).mono ?_; rintro e w3 ⟨rfl, o3, rfl⟩))
  all_goals
    go_wp2
    exact bodyPost_ret (v := .agg #[.bool false, .bool true, .bool false, .int .u64 0, .int .u64 0, .int .u64 0, .int .u64 0, .bool h, .int .u64 y0, .int .u64 y1, .int .u64 y2, .int .u64 y3]) (by simp [results, Tryz.results46, go_sem]) rfl ⟨rfl, (by repeat (first | (with_reducible exact Below.refl _ _) | (with_reducible refine bal ?_ _) | (with_reducible refine Below.drew ?_) | (with_reducible refine bdn ?_ _) | ((with_reducible refine bsc ?_ ?_ _); rotate_left; (focus (simp only []; omega)))))⟩
set_option maxRecDepth 100000 in
set_option maxHeartbeats 4000000 in
theorem rof_ft (g : Bool) (x0 x1 x2 x3 : Int) (h : Bool) (y0 y1 y2 y3 : Int) (w : World) (h1 : eq5 g x0 x1 x2 x3 true 18446744073709551615 18446744073709551615 18446744073709551615 18446744073709551615 = false) (h2 : eq5 h y0 y1 y2 y3 false 18446744073709551615 18446744073709551615 18446744073709551615 18446744073709551615 = true) :
    Calls Tryz.prog 46 #[.agg #[.bool g, .int .u64 x0, .int .u64 x1, .int .u64 x2, .int .u64 x3], .agg #[.bool h, .int .u64 y0, .int .u64 y1, .int .u64 y2, .int .u64 y3]] w fun e w' => e = .returned (V12 true false g x0 x1 x2 x3 false 0 0 0 0) ∧ Below w.heap.size w w' := by
  go_enter Tryz.func46, Tryz.ntmps46
  go_wp2
  go_region_held3 (fun w' => w'.cell? ⟨w.heap.size, 0, none⟩ = some (.bool g) ∧ w'.cell? ⟨w.heap.size, 1, none⟩ = some (.int .u64 x0) ∧ w'.cell? ⟨w.heap.size, 2, none⟩ = some (.int .u64 x1) ∧ w'.cell? ⟨w.heap.size, 3, none⟩ = some (.int .u64 x2) ∧ w'.cell? ⟨w.heap.size, 4, none⟩ = some (.int .u64 x3) ∧ w'.cell? ⟨w.heap.size + 1, 0, none⟩ = some (.bool h) ∧ w'.cell? ⟨w.heap.size + 1, 1, none⟩ = some (.int .u64 y0) ∧ w'.cell? ⟨w.heap.size + 1, 2, none⟩ = some (.int .u64 y1) ∧ w'.cell? ⟨w.heap.size + 1, 3, none⟩ = some (.int .u64 y2) ∧ w'.cell? ⟨w.heap.size + 1, 4, none⟩ = some (.int .u64 y3)) (simp [go_sem, World.cell?_alloc_past]) (first | (go_at_call 47; refine (rend_any _ _).mono ?_; rintro e w3 ⟨rfl, o3, rfl⟩))
  all_goals
    go_wp2
    exact bodyPost_ret (v := .agg #[.bool true, .bool false, .bool g, .int .u64 x0, .int .u64 x1, .int .u64 x2, .int .u64 x3, .bool false, .int .u64 0, .int .u64 0, .int .u64 0, .int .u64 0]) (by simp [results, Tryz.results46, go_sem]) rfl ⟨rfl, (by repeat (first | (with_reducible exact Below.refl _ _) | (with_reducible refine bal ?_ _) | (with_reducible refine Below.drew ?_) | (with_reducible refine bdn ?_ _) | ((with_reducible refine bsc ?_ ?_ _); rotate_left; (focus (simp only []; omega)))))⟩
set_option maxRecDepth 100000 in
set_option maxHeartbeats 4000000 in
theorem rof_ff (g : Bool) (x0 x1 x2 x3 : Int) (h : Bool) (y0 y1 y2 y3 : Int) (w : World) (h1 : eq5 g x0 x1 x2 x3 true 18446744073709551615 18446744073709551615 18446744073709551615 18446744073709551615 = false) (h2 : eq5 h y0 y1 y2 y3 false 18446744073709551615 18446744073709551615 18446744073709551615 18446744073709551615 = false) :
    Calls Tryz.prog 46 #[.agg #[.bool g, .int .u64 x0, .int .u64 x1, .int .u64 x2, .int .u64 x3], .agg #[.bool h, .int .u64 y0, .int .u64 y1, .int .u64 y2, .int .u64 y3]] w fun e w' => e = .returned (V12 true true g x0 x1 x2 x3 h y0 y1 y2 y3) ∧ Below w.heap.size w w' := by
  go_enter Tryz.func46, Tryz.ntmps46
  go_wp2
  go_region_held3 (fun w' => w'.cell? ⟨w.heap.size, 0, none⟩ = some (.bool g) ∧ w'.cell? ⟨w.heap.size, 1, none⟩ = some (.int .u64 x0) ∧ w'.cell? ⟨w.heap.size, 2, none⟩ = some (.int .u64 x1) ∧ w'.cell? ⟨w.heap.size, 3, none⟩ = some (.int .u64 x2) ∧ w'.cell? ⟨w.heap.size, 4, none⟩ = some (.int .u64 x3) ∧ w'.cell? ⟨w.heap.size + 1, 0, none⟩ = some (.bool h) ∧ w'.cell? ⟨w.heap.size + 1, 1, none⟩ = some (.int .u64 y0) ∧ w'.cell? ⟨w.heap.size + 1, 2, none⟩ = some (.int .u64 y1) ∧ w'.cell? ⟨w.heap.size + 1, 3, none⟩ = some (.int .u64 y2) ∧ w'.cell? ⟨w.heap.size + 1, 4, none⟩ = some (.int .u64 y3)) (simp [go_sem, World.cell?_alloc_past]) (first | (go_at_call 47; refine (rend_any _ _).mono ?_; rintro e w3 ⟨rfl, o3, rfl⟩))
  all_goals
    go_wp2
    exact bodyPost_ret (v := .agg #[.bool true, .bool true, .bool g, .int .u64 x0, .int .u64 x1, .int .u64 x2, .int .u64 x3, .bool h, .int .u64 y0, .int .u64 y1, .int .u64 y2, .int .u64 y3]) (by simp [results, Tryz.results46, go_sem]) rfl ⟨rfl, (by repeat (first | (with_reducible exact Below.refl _ _) | (with_reducible refine bal ?_ _) | (with_reducible refine Below.drew ?_) | (with_reducible refine bdn ?_ _) | ((with_reducible refine bsc ?_ ?_ _); rotate_left; (focus (simp only []; omega)))))⟩
theorem rof_any (a b : Int) (ha : inR a) (hb : inR b) (w : World) : Calls Tryz.prog 46 #[Iz a, Iz b] w fun e w' => e = .returned (rsp (ofSp (a, b))).val ∧ Below w.heap.size w w' := by
  have ht := topM_pos
  have ha' := inR_abs.1 ha
  have hb' := inR_abs.1 hb
  have hm : (-topM).natAbs < 2 ^ 256 := inR_abs.1 (by unfold inR; omega)
  have hM : topM.natAbs < 2 ^ 256 := inR_abs.1 (by unfold inR; omega)
  obtain ⟨t0, t1, t2, t3⟩ := topM_lb
  have e1 := eq5_z ha' hm
  rw [Int.natAbs_neg, t0, t1, t2, t3, decide_eq_true (show -topM < 0 by omega)] at e1
  have e2 := eq5_z hb' hM
  rw [t0, t1, t2, t3, decide_eq_false (show ¬ topM < 0 by omega)] at e2
  by_cases h1 : a = -topM <;> by_cases h2 : b = topM
  · rw [decide_eq_true h1] at e1; rw [decide_eq_true h2] at e2
    have := rof_tt _ _ _ _ _ _ _ _ _ _ w e1 e2
    have e : (rsp (ofSp (a, b))).val = V12 false false false 0 0 0 0 false 0 0 0 0 := by unfold rsp ofSp RS.val; simp [h1, h2, lb_zero]
    rw [e]; exact this
  · rw [decide_eq_true h1] at e1; rw [decide_eq_false h2] at e2
    have := rof_tf _ _ _ _ _ _ _ _ _ _ w e1 e2
    have e : (rsp (ofSp (a, b))).val = V12 false true false 0 0 0 0 (decide (b < 0)) (lb 0 b.natAbs) (lb 1 b.natAbs) (lb 2 b.natAbs) (lb 3 b.natAbs) := by unfold rsp ofSp RS.val; simp [h1, h2, lb_zero]
    rw [e]; exact this
  · rw [decide_eq_false h1] at e1; rw [decide_eq_true h2] at e2
    have := rof_ft _ _ _ _ _ _ _ _ _ _ w e1 e2
    have e : (rsp (ofSp (a, b))).val = V12 true false (decide (a < 0)) (lb 0 a.natAbs) (lb 1 a.natAbs) (lb 2 a.natAbs) (lb 3 a.natAbs) false 0 0 0 0 := by unfold rsp ofSp RS.val; simp [h1, h2, lb_zero]
    rw [e]; exact this
  · rw [decide_eq_false h1] at e1; rw [decide_eq_false h2] at e2
    have := rof_ff _ _ _ _ _ _ _ _ _ _ w e1 e2
    have e : (rsp (ofSp (a, b))).val = V12 true true (decide (a < 0)) (lb 0 a.natAbs) (lb 1 a.natAbs) (lb 2 a.natAbs) (lb 3 a.natAbs) (decide (b < 0)) (lb 0 b.natAbs) (lb 1 b.natAbs) (lb 2 b.natAbs) (lb 3 b.natAbs) := by unfold rsp ofSp RS.val; simp [h1, h2]
    rw [e]; exact this
end Go.Proofs.YtjlgiejggcbgbaaGreatDoor
end
section
namespace Go.Proofs.YtjlgiejggcbgbaaGreatDoor
open Go.RowKit Go.Shelf
open Go.Sort (grow)

theorem csS_get : ∀ {l : List RS} {j : Nat} {u : Value}, (csS l)[j]? = some u → ∃ r, l[j / 12]? = some r ∧ r.cells[j % 12]? = some u
  | [], j, u, h => by simp [csS] at h
  | r :: l, j, u, h => by
    have e : csS (r :: l) = r.cells ++ csS l := by unfold csS; simp
    rw [e] at h
    by_cases hj : j < 12
    · rw [List.getElem?_append_left (by rw [RS.cells_length]; exact hj)] at h
      exact ⟨r, by rw [Nat.div_eq_of_lt hj]; rfl, by rw [Nat.mod_eq_of_lt hj]; exact h⟩
    · rw [List.getElem?_append_right (by rw [RS.cells_length]; omega), RS.cells_length] at h
      obtain ⟨s, h1, h2⟩ := csS_get h
      refine ⟨s, ?_, ?_⟩
      · rw [show j / 12 = (j - 12) / 12 + 1 by omega]; simpa using h1
      · rw [show j % 12 = (j - 12) % 12 by omega]; exact h2
theorem Ls.news {w : World} {la : Option Addr} {l : List RS} {bb off : Nat} (h : Ls w la l bb off) : ∀ j u, (csS l)[j]? = some u → w.cell? ((⟨bb, off, none⟩ : Addr).add j) = some u := by
  intro j u hu
  obtain ⟨r, h1, h2⟩ := csS_get hu
  have := h.cells _ _ h1 _ _ h2
  rw [addr_add9, show off + j = off + j / 12 * 12 + j % 12 by omega]
  exact this
theorem Ls.drop {w : World} {la : Option Addr} {l : List RS} {bb off : Nat} (h : Ls w la l bb off) (k : Nat) : Ls w (some ⟨bb, off + k * 12, none⟩) (l.drop k) bb (off + k * 12) := by
  refine ⟨fun _ => rfl, fun i r hr => ?_, by have := h.len; rw [List.length_drop]; omega⟩
  rw [List.getElem?_drop] at hr
  have := h.cells _ _ hr
  rw [show off + k * 12 + i * 12 = off + (k + i) * 12 by omega]
  exact this
theorem Ls.take {w : World} {la : Option Addr} {l : List RS} {bb off : Nat} (h : Ls w la l bb off) (k : Nat) : Ls w la (l.take k) bb off := by
  refine ⟨fun hl => h.la (by rw [List.length_take] at hl; omega), fun i r hr => ?_, by have := h.len; rw [List.length_take]; omega⟩
  rw [List.getElem?_take] at hr
  split at hr
  · exact h.cells _ _ hr
  · cases hr
theorem own_empty9 (W : World) (e : TypeId) (n H : Nat) (h : W.heap.size = H) : (W.alloc (.cells #[] e)).ownsRow H e n (.slice (some ⟨H, 0, none⟩) 0 0) 0 [] := by
  subst h
  exact ⟨by simp, .inr ⟨W.heap.size, 0, #[], rfl, Nat.le_refl _, heap_alloc_new W _, Nat.le_refl _, by decide, by simp, by simp⟩⟩
theorem own_cap9 {W : World} {base : Nat} {e : TypeId} {size g n c m : Nat} {xs : List Value} (h : W.ownsRow base e size (.slice (some ⟨g, 0, none⟩) n c) m xs) : n ≤ c := by
  obtain ⟨h1, h2⟩ := h
  rcases h2 with ⟨h3, _⟩ | ⟨g', cap, cur, h3, h4, h5, h6⟩
  · cases h3
  · cases h3
    exact h6.1
end Go.Proofs.YtjlgiejggcbgbaaGreatDoor
end
