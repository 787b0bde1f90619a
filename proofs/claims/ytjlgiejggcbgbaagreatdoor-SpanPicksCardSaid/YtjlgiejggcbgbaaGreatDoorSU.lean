/-
  SpPkM SpPkR SpRD SpPicksW SpPkH, one behind the other: a claim holds at most 60 files.
-/
import Derived.Test.YtjlgiejggcbgbaaGreatDoorSV
import Derived.Test.YtjlgiejggcbgbaaGreatDoorGR
import Derived.Test.YtjlgiejggcbgbaaGreatDoorSZ
import Derived.Deep.Cut
import Derived.Deep.DeepCutAuto
import Derived.Test.YtjlgiejggcbgbaaGreatDoorSX
import Derived.Test.YtjlgiejggcbgbaaGreatDoorSpRB
section
namespace Go.Proofs.YtjlgiejggcbgbaaGreatDoor

def kindP (ex ro : Bool) (x : Int) : Bool := if exq x.natAbs then ex else ro
/-- By size, of like ones the one that is not below 0. -/
def keyP (x : Int) : Nat := 2 * x.natAbs + if x < 0 then 1 else 0
theorem keyP_inj {x y : Int} (h : keyP x = keyP y) : x = y := by
  unfold keyP at h
  split at h <;> split at h <;> omega
/-- The best one yet is as near as this. -/
def Dm (b : Option Int) (x : Int) : Prop := ∃ a, b = some a ∧ keyP a ≤ keyP x
theorem Dm.trans {b : Option Int} {x y : Int} (h : Dm b x) (k : keyP x ≤ keyP y) : Dm b y := by
  obtain ⟨a, h1, h2⟩ := h
  exact ⟨a, h1, Nat.le_trans h2 k⟩
/-- A step of a search: what it keeps, what it takes up, where its answer comes from. -/
structure Trs {γ : Type} (tr : Option Int → γ → Option Int) (V : γ → Int → Prop) : Prop where
  mono : ∀ b g x, Dm b x → Dm (tr b g) x
  hit : ∀ b g c, V g c → Dm (tr b g) c
  inn : ∀ b g a, tr b g = some a → b = some a ∨ V g a
theorem Trs.fold {γ : Type} {tr : Option Int → γ → Option Int} {V : γ → Int → Prop} (h : Trs tr V) : ∀ (L : List γ) (b : Option Int), (∀ x, Dm b x → Dm (L.foldl tr b) x) ∧ (∀ g ∈ L, ∀ c, V g c → Dm (L.foldl tr b) c) ∧ (∀ a, L.foldl tr b = some a → b = some a ∨ ∃ g ∈ L, V g a)
  | [], b => ⟨fun _ h => h, fun _ hg => (by cases hg), fun _ h => Or.inl h⟩
  | g :: L, b => by
    obtain ⟨h1, h2, h3⟩ := Trs.fold h L (tr b g)
    refine ⟨fun x hx => h1 x (h.mono b g x hx), fun g' hg c hc => ?_, fun a ha => ?_⟩
    · rcases List.mem_cons.1 hg with rfl | hg
      · exact h1 c (h.hit b g' c hc)
      · exact h2 g' hg c hc
    · rcases h3 a ha with h4 | ⟨g', h5, h6⟩
      · rcases h.inn b g a h4 with h7 | h7
        · exact Or.inl h7
        · exact Or.inr ⟨g, List.mem_cons_self, h7⟩
      · exact Or.inr ⟨g', List.mem_cons_of_mem _ h5, h6⟩
theorem Trs.nest {γ δ : Type} {L : List γ} {tr : δ → Option Int → γ → Option Int} {V : δ → γ → Int → Prop} (h : ∀ s, Trs (tr s) (V s)) : Trs (fun b s => L.foldl (tr s) b) (fun s c => ∃ g ∈ L, V s g c) :=
  ⟨fun b s x hx => ((h s).fold L b).1 x hx, fun b s c ⟨g, hg, hc⟩ => ((h s).fold L b).2.1 g hg c hc, fun b s a ha => ((h s).fold L b).2.2 a ha⟩
/-- A number of the span that a step tells. -/
def Vs (z : Int) (s : Sp) (j : Nat) (c : Int) : Prop := c = stp j z ∧ c.natAbs < 2 ^ 256 ∧ loE s ≤ c ∧ c ≤ hiE s
theorem isN_key {a b : Int} : (isN a b = true → keyP a ≤ keyP b) ∧ (isN a b = false → keyP b ≤ keyP a) := by
  unfold isN keyP
  constructor <;> intro h
  · rw [Bool.or_eq_true, Bool.and_eq_true, decide_eq_true_eq, decide_eq_true_eq, decide_eq_true_eq] at h
    split <;> split <;> omega
  · rw [Bool.or_eq_false_iff, Bool.and_eq_false_iff, decide_eq_false_iff_not, decide_eq_false_iff_not, decide_eq_false_iff_not] at h
    split <;> split <;> omega
theorem takes_iff {s : Sp} {best : Option Int} {a : Int} : takes s best a = true ↔ (a.natAbs < 2 ^ 256 ∧ loE s ≤ a ∧ a ≤ hiE s) ∧ ∀ b, best = some b → isN a b = true := by
  unfold takes
  rw [Bool.and_eq_true, Bool.and_eq_true, Bool.and_eq_true, decide_eq_true_eq, decide_eq_true_eq, decide_eq_true_eq]
  cases best with
  | none => simp
  | some b => simp [and_assoc]
theorem tryS_trs (s : Sp) : Trs (tryS s) (Vs (nearS s) s) := by
  refine ⟨fun b j x hx => ?_, fun b j c hc => ?_, fun b j a ha => ?_⟩
  · obtain ⟨a, rfl, hk⟩ := hx
    unfold tryS
    split
    · rename_i ht
      exact ⟨_, rfl, Nat.le_trans (isN_key.1 ((takes_iff.1 ht).2 a rfl)) hk⟩
    · exact ⟨a, rfl, hk⟩
  · obtain ⟨rfl, h1, h2, h3⟩ := hc
    unfold tryS
    by_cases ht : takes s b (stp j (nearS s)) = true
    · rw [if_pos ht]; exact ⟨_, rfl, Nat.le_refl _⟩
    · rw [if_neg ht]
      cases b with
      | none => exact absurd (takes_iff.2 ⟨⟨h1, h2, h3⟩, fun b hb => by cases hb⟩) ht
      | some b =>
        refine ⟨b, rfl, isN_key.2 ?_⟩
        cases hq : isN (stp j (nearS s)) b with
        | false => rfl
        | true => exact absurd (takes_iff.2 ⟨⟨h1, h2, h3⟩, fun b' hb => by cases hb; exact hq⟩) ht
  · unfold tryS at ha
    split at ha
    · rename_i ht
      cases ha
      exact Or.inr ⟨rfl, (takes_iff.1 ht).1⟩
    · exact Or.inl ha
theorem stp_kind {z : Int} (hz : z.natAbs < 2 ^ 256) {ex ro : Bool} {j : Nat} (hj : j ∈ stepsJ ex ro) (h : (stp j z).natAbs < 2 ^ 256) : kindP ex ro (stp j z) = true := by
  have hz' : (-z).natAbs < 2 ^ 256 := by omega
  unfold stepsJ at hj
  rcases List.mem_append.1 hj with hj | hj
  · cases ex with
    | false => cases hj
    | true =>
      simp only [↓reduceIte, List.mem_cons, List.not_mem_nil, or_false] at hj
      rcases hj with rfl | rfl
      · have h' : (eup z).natAbs < 2 ^ 256 := h
        show (if exq (eup z).natAbs = true then true else ro) = true
        rw [if_pos ((eup_ge hz).2 h')]
      · have h' : (-(eup (-z))).natAbs < 2 ^ 256 := h
        show (if exq (-(eup (-z))).natAbs = true then true else ro) = true
        rw [Int.natAbs_neg] at h' ⊢
        rw [if_pos ((eup_ge hz').2 h')]
  · cases ro with
    | false => cases hj
    | true =>
      simp only [↓reduceIte, List.mem_cons, List.not_mem_nil, or_false] at hj
      rcases hj with rfl | rfl
      · show (if exq (rup z).natAbs = true then ex else true) = true
        rw [(rup_ge hz).2.2]; rfl
      · show (if exq (-(rup (-z))).natAbs = true then ex else true) = true
        rw [Int.natAbs_neg, (rup_ge hz').2.2]; rfl
/-- Of a span's numbers the one that is least in size. -/
def Nr (lo hi z : Int) : Prop := lo ≤ z ∧ z ≤ hi ∧ (0 ≤ z ∨ z = hi) ∧ (z ≤ 0 ∨ z = lo)
theorem key_mid {lo hi z x c : Int} (hn : Nr lo hi z) (hl : lo ≤ x) (hh : x ≤ hi) (h : z ≤ c ∧ c ≤ x ∨ x ≤ c ∧ c ≤ z) : lo ≤ c ∧ c ≤ hi ∧ keyP c ≤ keyP x := by
  obtain ⟨h1, h2, h3, h4⟩ := hn
  unfold keyP
  refine ⟨by omega, by omega, ?_⟩
  split <;> split <;> omega
theorem cand {lo hi z x : Int} {ex ro : Bool} (hn : Nr lo hi z) (hz : z.natAbs < 2 ^ 256) (hx : x.natAbs < 2 ^ 256) (hl : lo ≤ x) (hh : x ≤ hi) (hk : kindP ex ro x = true) :
    ∃ j ∈ stepsJ ex ro, (stp j z).natAbs < 2 ^ 256 ∧ lo ≤ stp j z ∧ stp j z ≤ hi ∧ keyP (stp j z) ≤ keyP x := by
  have hz' : (-z).natAbs < 2 ^ 256 := by omega
  have hx' : (-x).natAbs < 2 ^ 256 := by omega
  unfold kindP at hk
  by_cases he : exq x.natAbs = true
  · rw [if_pos he] at hk
    subst hk
    by_cases hzx : z ≤ x
    · have a1 := eup_le hz hx he hzx
      have a2 := (eup_ge hz).1
      exact ⟨0, by simp [stepsJ], (show (eup z).natAbs < 2 ^ 256 by omega), key_mid hn hl hh (Or.inl ⟨a2, a1⟩)⟩
    · have a1 := eup_le hz' hx' (by rw [Int.natAbs_neg]; exact he) (by omega : -z ≤ -x)
      have a2 := (eup_ge hz').1
      exact ⟨1, by simp [stepsJ], (show (-(eup (-z))).natAbs < 2 ^ 256 by omega), key_mid (c := -(eup (-z))) hn hl hh (Or.inr ⟨by omega, by omega⟩)⟩
  · rw [if_neg he] at hk
    subst hk
    have he' : exq x.natAbs = false := by cases h : exq x.natAbs <;> simp_all
    by_cases hzx : z ≤ x
    · have a1 := rup_le hz hx he' hzx
      have a2 := (rup_ge hz).1
      exact ⟨2, by simp [stepsJ], (show (rup z).natAbs < 2 ^ 256 by omega), key_mid hn hl hh (Or.inl ⟨a2, a1⟩)⟩
    · have a1 := rup_le hz' hx' (by rw [Int.natAbs_neg]; exact he') (by omega : -z ≤ -x)
      have a2 := (rup_ge hz').1
      exact ⟨3, by simp [stepsJ], (show (-(rup (-z))).natAbs < 2 ^ 256 by omega), key_mid (c := -(rup (-z))) hn hl hh (Or.inr ⟨by omega, by omega⟩)⟩
theorem nearS_nr {s : Sp} (h : SpR s) (hle : loE s ≤ hiE s) : Nr (loE s) (hiE s) (nearS s) := by
  obtain ⟨h1, h2⟩ := h
  have := topM_pos
  unfold Nr nearS
  unfold loE hiE at *
  cases hs : s.1 with
  | none =>
    cases ht : s.2 with
    | none => simp only [Option.getD_none]; omega
    | some b =>
      have hb := h2 b ht
      unfold inR at hb
      simp only [Option.getD_none, Option.getD_some]
      split
      · omega
      · split <;> omega
  | some a =>
    have ha := h1 a hs
    unfold inR at ha
    rw [hs] at hle
    cases ht : s.2 with
    | none =>
      simp only [Option.getD_none, Option.getD_some]
      split
      · omega
      · split <;> omega
    | some b =>
      have hb := h2 b ht
      rw [ht] at hle
      simp only [Option.getD_some] at hle
      simp only [Option.getD_some]
      split
      · omega
      · split <;> omega
/-- What the answer is the least of. -/
def Fk (f : Int → Bool) (ex ro : Bool) (x : Int) : Prop := x.natAbs < 2 ^ 256 ∧ f x = true ∧ kindP ex ro x = true
/-- The least in size of what F holds, or none. -/
def IsL (F : Int → Prop) (b : Option Int) : Prop := (∀ a, b = some a → F a) ∧ ∀ x, F x → Dm b x
theorem IsL.uniq {F : Int → Prop} {b c : Option Int} (h : IsL F b) (k : IsL F c) : b = c := by
  cases b with
  | none =>
    cases c with
    | none => rfl
    | some y => obtain ⟨a, ha, _⟩ := h.2 y (k.1 y rfl); cases ha
  | some x =>
    cases c with
    | none => obtain ⟨a, ha, _⟩ := k.2 x (h.1 x rfl); cases ha
    | some y =>
      obtain ⟨a, ha, h1⟩ := h.2 y (k.1 y rfl)
      obtain ⟨b, hb, h2⟩ := k.2 x (h.1 x rfl)
      cases ha
      cases hb
      rw [keyP_inj (Nat.le_antisymm h1 h2)]
theorem memS_iff {A : List Sp} {x : Int} : memS A x = true ↔ ∃ s ∈ A, loE s ≤ x ∧ x ≤ hiE s := by
  unfold memS
  rw [List.any_eq_true]
  constructor
  · rintro ⟨s, hs, h⟩
    rw [Bool.and_eq_true, decide_eq_true_eq, decide_eq_true_eq] at h
    exact ⟨s, hs, h⟩
  · rintro ⟨s, hs, h⟩
    exact ⟨s, hs, by rw [Bool.and_eq_true, decide_eq_true_eq, decide_eq_true_eq]; exact h⟩
theorem pick_least {A : List Sp} (hA : ∀ s ∈ A, SpR s) (ex ro : Bool) : IsL (Fk (memS A) ex ro) (pickT A ex ro) := by
  have hN := Trs.nest (L := stepsJ ex ro) (fun s => tryS_trs s)
  obtain ⟨_, h2, h3⟩ := hN.fold A none
  refine ⟨fun a ha => ?_, fun x hx => ?_⟩
  · rcases h3 a ha with h | ⟨s, hs, j, hj, rfl, h4, h5, h6⟩
    · cases h
    · exact ⟨h4, memS_iff.2 ⟨s, hs, h5, h6⟩, stp_kind (near_abs (hA s hs)) hj h4⟩
  · obtain ⟨hx, hm, hk⟩ := hx
    obtain ⟨s, hs, h5, h6⟩ := memS_iff.1 hm
    obtain ⟨j, hj, h7, h8, h9, h10⟩ := cand (nearS_nr (hA s hs) (by omega)) (near_abs (hA s hs)) hx h5 h6 hk
    exact (h2 s hs (stp j (nearS s)) ⟨j, hj, rfl, h7, h8, h9⟩).trans h10

/-- The reference's: closer, or none yet. -/
def clo (a b : Int) : Bool := decide (a.natAbs < b.natAbs) || (decide (a.natAbs = b.natAbs) && (decide (b < 0) && decide (0 ≤ a)))
theorem clo_key {a b : Int} : (clo a b = true → keyP a ≤ keyP b) ∧ (clo a b = false → keyP b ≤ keyP a) := by
  unfold clo keyP
  constructor <;> intro h
  · rw [Bool.or_eq_true, Bool.and_eq_true, Bool.and_eq_true, decide_eq_true_eq, decide_eq_true_eq, decide_eq_true_eq, decide_eq_true_eq] at h
    split <;> split <;> omega
  · rw [Bool.or_eq_false_iff, Bool.and_eq_false_iff, Bool.and_eq_false_iff, decide_eq_false_iff_not, decide_eq_false_iff_not, decide_eq_false_iff_not, decide_eq_false_iff_not] at h
    split <;> split <;> omega
def fromP (p : Int × Int) : Int := if p.2 < (if 0 < p.1 then p.1 else 0) then p.2 else if 0 < p.1 then p.1 else 0
/-- Is this step asked for? -/
def wantJ (ex ro : Bool) (k : Nat) : Bool := if k < 2 then ex else ro
def bestB (a : Int) : Option Int → Bool
  | none => true
  | some b => clo a b
def rtakes (p : Int × Int) (ex ro : Bool) (best : Option Int) (k : Nat) (a : Int) : Bool := wantJ ex ro k && (decide (a.natAbs < 2 ^ 256) && (decide (p.1 ≤ a) && (decide (a ≤ p.2) && bestB a best)))
def rtry (ex ro : Bool) (p : Int × Int) (best : Option Int) (k : Nat) : Option Int := if rtakes p ex ro best k (nearT (fromP p) (decide (k % 2 = 0)) (decide (k < 2))) = true then some (nearT (fromP p) (decide (k % 2 = 0)) (decide (k < 2))) else best
def rpickT (P : List (Int × Int)) (ex ro : Bool) : Option Int := P.foldl (fun b p => [0, 1, 2, 3].foldl (rtry ex ro p) b) none
theorem nearT_stp {k : Nat} (h : k < 4) (z : Int) : nearT z (decide (k % 2 = 0)) (decide (k < 2)) = stp k z := by
  match k, h with
  | 0, _ => rfl
  | 1, _ => rfl
  | 2, _ => rfl
  | 3, _ => rfl
def Vr (ex ro : Bool) (p : Int × Int) (k : Nat) (c : Int) : Prop := wantJ ex ro k = true ∧ c = nearT (fromP p) (decide (k % 2 = 0)) (decide (k < 2)) ∧ c.natAbs < 2 ^ 256 ∧ p.1 ≤ c ∧ c ≤ p.2
theorem rtakes_iff {p : Int × Int} {ex ro : Bool} {best : Option Int} {k : Nat} {a : Int} : rtakes p ex ro best k a = true ↔ (wantJ ex ro k = true ∧ a.natAbs < 2 ^ 256 ∧ p.1 ≤ a ∧ a ≤ p.2) ∧ bestB a best = true := by
  unfold rtakes
  rw [Bool.and_eq_true, Bool.and_eq_true, Bool.and_eq_true, Bool.and_eq_true, decide_eq_true_eq, decide_eq_true_eq, decide_eq_true_eq]
  simp only [and_assoc]
theorem rtry_trs (ex ro : Bool) (p : Int × Int) : Trs (rtry ex ro p) (Vr ex ro p) := by
  refine ⟨fun b j x hx => ?_, fun b j c hc => ?_, fun b j a ha => ?_⟩
  · obtain ⟨a, rfl, hk⟩ := hx
    unfold rtry
    split
    · rename_i ht
      exact ⟨_, rfl, Nat.le_trans (clo_key.1 (rtakes_iff.1 ht).2) hk⟩
    · exact ⟨a, rfl, hk⟩
  · obtain ⟨h0, rfl, h1⟩ := hc
    unfold rtry
    split
    · exact ⟨_, rfl, Nat.le_refl _⟩
    · rename_i ht
      cases b with
      | none => exact absurd (rtakes_iff.2 ⟨⟨h0, h1⟩, rfl⟩) ht
      | some b =>
        refine ⟨b, rfl, clo_key.2 ?_⟩
        cases hq : clo (nearT (fromP p) (decide (j % 2 = 0)) (decide (j < 2))) b with
        | false => rfl
        | true => exact absurd (rtakes_iff.2 ⟨⟨h0, h1⟩, (show bestB (nearT (fromP p) (decide (j % 2 = 0)) (decide (j < 2))) (some b) = true from hq)⟩) ht
  · unfold rtry at ha
    split at ha
    · rename_i ht
      cases ha
      have := (rtakes_iff.1 ht).1
      exact Or.inr ⟨this.1, rfl, this.2⟩
    · exact Or.inl ha
theorem fromP_nr {p : Int × Int} (h : p.1 ≤ p.2) : Nr p.1 p.2 (fromP p) := by
  unfold Nr fromP
  split <;> split at * <;> omega
theorem wantJ_mem {ex ro : Bool} {k : Nat} (h4 : k < 4) : wantJ ex ro k = true ↔ k ∈ stepsJ ex ro := by
  match k, h4 with
  | 0, _ => cases ex <;> cases ro <;> simp [wantJ, stepsJ]
  | 1, _ => cases ex <;> cases ro <;> simp [wantJ, stepsJ]
  | 2, _ => cases ex <;> cases ro <;> simp [wantJ, stepsJ]
  | 3, _ => cases ex <;> cases ro <;> simp [wantJ, stepsJ]
theorem mem4 {k : Nat} : k ∈ [0, 1, 2, 3] ↔ k < 4 := by simp; omega
theorem memP_iff {P : List (Int × Int)} {x : Int} : memP P x = true ↔ ∃ p ∈ P, p.1 ≤ x ∧ x ≤ p.2 := by
  unfold memP
  rw [List.any_eq_true]
  constructor
  · rintro ⟨s, hs, h⟩
    rw [Bool.and_eq_true, decide_eq_true_eq, decide_eq_true_eq] at h
    exact ⟨s, hs, h⟩
  · rintro ⟨s, hs, h⟩
    exact ⟨s, hs, by rw [Bool.and_eq_true, decide_eq_true_eq, decide_eq_true_eq]; exact h⟩
theorem from_abs {p : Int × Int} (h : -topM ≤ p.1 ∧ p.1 ≤ p.2 ∧ p.2 ≤ topM) : (fromP p).natAbs < 2 ^ 256 := by
  have := fromP_nr h.2.1
  unfold Nr at this
  exact inR_abs.1 ⟨by omega, by omega⟩
theorem rpick_least {P : List (Int × Int)} {f : Int → Bool} (hP : IsN P f) (ex ro : Bool) : IsL (Fk f ex ro) (rpickT P ex ro) := by
  have hN := Trs.nest (L := [0, 1, 2, 3]) (fun p => rtry_trs ex ro p)
  obtain ⟨_, h2, h3⟩ := hN.fold P none
  have hr := sep_rng (Int.le_refl _) hP.1
  refine ⟨fun a ha => ?_, fun x hx => ?_⟩
  · rcases h3 a ha with h | ⟨p, hp, k, hk, hw, he, h4, h5, h6⟩
    · cases h
    · have hk4 := mem4.1 hk
      have hR := hr p hp
      have hi : inR a := inR_abs.2 h4
      refine ⟨h4, by rw [← hP.2 a hi.1 hi.2]; exact memP_iff.2 ⟨p, hp, h5, h6⟩, ?_⟩
      rw [nearT_stp hk4] at he
      subst he
      exact stp_kind (from_abs hR) ((wantJ_mem hk4).1 hw) h4
  · obtain ⟨hx, hm, hk⟩ := hx
    have hi : inR x := inR_abs.2 hx
    rw [← hP.2 x hi.1 hi.2] at hm
    obtain ⟨p, hp, h5, h6⟩ := memP_iff.1 hm
    have hR := hr p hp
    obtain ⟨j, hj, h7, h8, h9, h10⟩ := cand (fromP_nr hR.2.1) (from_abs hR) hx h5 h6 hk
    have hj4 := steps_mem j hj
    refine (h2 p hp (stp j (fromP p)) ⟨j, mem4.2 hj4, (wantJ_mem hj4).2 hj, (nearT_stp hj4 _).symm, h7, h8, h9⟩).trans h10
/-- Both searches tell the same number. -/
theorem picks_same {A : List Sp} {P : List (Int × Int)} (hA : ∀ s ∈ A, SpR s) (hP : IsN P fun x => memS A x) (ex ro : Bool) : rpickT P ex ro = pickT A ex ro := (rpick_least hP ex ro).uniq (pick_least hA ex ro)
end Go.Proofs.YtjlgiejggcbgbaaGreatDoor
end
section
namespace Go.Proofs.YtjlgiejggcbgbaaGreatDoor
open Go.RowKit Go.Shelf
open Go.Sort (grow)
attribute [local go_sem ↓] eql_nat neq_nat eql_int5 neq_int5

set_option maxHeartbeats 1000000 in
set_option maxRecDepth 100000 in
theorem rclo_core (ga gb : Bool) (x y : Nat) (hx : x < 2 ^ 256) (hy : y < 2 ^ 256) (c : Int) (hc : rcv x y = c) (hcc : c = -1 ∨ c = 0 ∨ c = 1) (r : Bool) (hr : r = (decide (c < 0) || (decide (c = 0) && (gb && !ga)))) (w : World) :
    Calls Tryz.prog 25 #[I5 ga x, I5 gb y, .bool true] w fun e w' => e = .returned (.bool r) ∧ Below w.heap.size w w' := by
  have HCC := Lib.hid hcc; clear hcc
  unfold I5
  have L1 := Lib.hid (digs_of_eight hx)
  have HX := Lib.hid hx; have HY := Lib.hid hy; have HC := Lib.hid hc; clear hx hy hc
  go_enter Tryz.func25, Tryz.ntmps25
  go_upto_region 3 with (fail)
  go_name_world w1 hw1
  have BW1 : Below w.heap.size w w1 := by rw [← hw1]; repeat (first | (with_reducible exact Below.refl _ _) | (with_reducible refine bal ?_ _) | (with_reducible refine Below.drew ?_) | (with_reducible refine bdn ?_ _))
  have X1 : Row5 w1 w.heap.size (.bool ga) (.int .u64 (lb 0 x)) (.int .u64 (lb 1 x)) (.int .u64 (lb 2 x)) (.int .u64 (lb 3 x)) := by rw [← hw1]; exact (by repeat (first | (with_reducible exact Row5.new _ _ _ _ _ _) | ((with_reducible refine Row5.new' _ ?_ _ _ _ _ _); (simp; done)) | (with_reducible refine Row5.alloc ?_ _) | (with_reducible refine Row5.drew ?_)))
  have Y1 : Row5 w1 (w.heap.size + 1) (.bool gb) (.int .u64 (lb 0 y)) (.int .u64 (lb 1 y)) (.int .u64 (lb 2 y)) (.int .u64 (lb 3 y)) := by rw [← hw1]; exact (by repeat (first | (with_reducible exact Row5.new _ _ _ _ _ _) | ((with_reducible refine Row5.new' _ ?_ _ _ _ _ _); (simp; done)) | (with_reducible refine Row5.alloc ?_ _) | (with_reducible refine Row5.drew ?_)))
  clear hw1
  have lt_X := X1.lt
  have lt_Y := Y1.lt
  go_region_held3 (fun w' => w'.cell? ⟨w.heap.size, 0, none⟩ = some (.bool ga) ∧ w'.cell? ⟨w.heap.size, 1, none⟩ = some (.int .u64 (lb 0 x)) ∧ w'.cell? ⟨w.heap.size, 2, none⟩ = some (.int .u64 (lb 1 x)) ∧ w'.cell? ⟨w.heap.size, 3, none⟩ = some (.int .u64 (lb 2 x)) ∧ w'.cell? ⟨w.heap.size, 4, none⟩ = some (.int .u64 (lb 3 x)) ∧ w'.cell? ⟨(w.heap.size + 1), 0, none⟩ = some (.bool gb) ∧ w'.cell? ⟨(w.heap.size + 1), 1, none⟩ = some (.int .u64 (lb 0 y)) ∧ w'.cell? ⟨(w.heap.size + 1), 2, none⟩ = some (.int .u64 (lb 1 y)) ∧ w'.cell? ⟨(w.heap.size + 1), 3, none⟩ = some (.int .u64 (lb 2 y)) ∧ w'.cell? ⟨(w.heap.size + 1), 4, none⟩ = some (.int .u64 (lb 3 y)))
    ((refine both55 ?_ ?_; (focus (repeat (first | (with_reducible assumption) | (with_reducible refine Row5.alloc ?_ _) | (with_reducible refine Row5.drew ?_) | (with_reducible refine Row5.drewN ?_ _)))); (focus (repeat (first | (with_reducible assumption) | (with_reducible refine Row5.alloc ?_ _) | (with_reducible refine Row5.drew ?_) | (with_reducible refine Row5.drewN ?_ _)))); done))
    (first | (go_at_call 29; (with_reducible refine (rof x HX.out _).mono ?_); rintro e wf1_1 ⟨s1, rfl, hr1_1, hb1_1⟩; have hx1_1 : Below w1.heap.size w1 wf1_1 := btr (by repeat (first | (with_reducible exact Below.refl _ _) | (with_reducible refine bal ?_ _) | (with_reducible refine Below.drew ?_) | (with_reducible refine bdn ?_ _))) hb1_1; have Xf1 : Row5 wf1_1 w.heap.size (.bool ga) (.int .u64 (lb 0 x)) (.int .u64 (lb 1 x)) (.int .u64 (lb 2 x)) (.int .u64 (lb 3 x)) := Row5.keep hb1_1 (by repeat (first | (with_reducible assumption) | (with_reducible refine Row5.alloc ?_ _) | (with_reducible refine Row5.drew ?_) | (with_reducible refine Row5.drewN ?_ _))); have Yf1 : Row5 wf1_1 (w.heap.size + 1) (.bool gb) (.int .u64 (lb 0 y)) (.int .u64 (lb 1 y)) (.int .u64 (lb 2 y)) (.int .u64 (lb 3 y)) := Row5.keep hb1_1 (by repeat (first | (with_reducible assumption) | (with_reducible refine Row5.alloc ?_ _) | (with_reducible refine Row5.drew ?_) | (with_reducible refine Row5.drewN ?_ _)))) | (go_at_call 29; (with_reducible refine (rof y HY.out _).mono ?_); rintro e wf1_2 ⟨s2, rfl, hr1_2, hb1_2⟩; have hx1_2 : Below wf1_1.heap.size wf1_1 wf1_2 := btr (by repeat (first | (with_reducible exact Below.refl _ _) | (with_reducible refine bal ?_ _) | (with_reducible refine Below.drew ?_) | (with_reducible refine bdn ?_ _))) hb1_2; have Xf2 : Row5 wf1_2 w.heap.size (.bool ga) (.int .u64 (lb 0 x)) (.int .u64 (lb 1 x)) (.int .u64 (lb 2 x)) (.int .u64 (lb 3 x)) := Row5.keep hb1_2 (by repeat (first | (with_reducible assumption) | (with_reducible refine Row5.alloc ?_ _) | (with_reducible refine Row5.drew ?_) | (with_reducible refine Row5.drewN ?_ _))); have Yf2 : Row5 wf1_2 (w.heap.size + 1) (.bool gb) (.int .u64 (lb 0 y)) (.int .u64 (lb 1 y)) (.int .u64 (lb 2 y)) (.int .u64 (lb 3 y)) := Row5.keep hb1_2 (by repeat (first | (with_reducible assumption) | (with_reducible refine Row5.alloc ?_ _) | (with_reducible refine Row5.drew ?_) | (with_reducible refine Row5.drewN ?_ _))); have DXf1_2 : DR wf1_2 s1 x := DR.keep hx1_2 hr1_1) | (go_at_call 48; (with_reducible refine (rcmp_of HC.out L1.out (DR.keep (by repeat (first | (with_reducible exact Below.refl _ _) | (with_reducible refine bal ?_ _) | (with_reducible refine Below.drew ?_) | (with_reducible refine bdn ?_ _))) DXf1_2) (DR.keep (by repeat (first | (with_reducible exact Below.refl _ _) | (with_reducible refine bal ?_ _) | (with_reducible refine Below.drew ?_) | (with_reducible refine bdn ?_ _))) hr1_2)).mono ?_); rintro e wf1_3 ⟨rfl, hb1_3⟩; have hx1_3 : Below wf1_2.heap.size wf1_2 wf1_3 := btr (by repeat (first | (with_reducible exact Below.refl _ _) | (with_reducible refine bal ?_ _) | (with_reducible refine Below.drew ?_) | (with_reducible refine bdn ?_ _))) hb1_3; have Xf3 : Row5 wf1_3 w.heap.size (.bool ga) (.int .u64 (lb 0 x)) (.int .u64 (lb 1 x)) (.int .u64 (lb 2 x)) (.int .u64 (lb 3 x)) := Row5.keep hb1_3 (by repeat (first | (with_reducible assumption) | (with_reducible refine Row5.alloc ?_ _) | (with_reducible refine Row5.drew ?_) | (with_reducible refine Row5.drewN ?_ _))); have Yf3 : Row5 wf1_3 (w.heap.size + 1) (.bool gb) (.int .u64 (lb 0 y)) (.int .u64 (lb 1 y)) (.int .u64 (lb 2 y)) (.int .u64 (lb 3 y)) := Row5.keep hb1_3 (by repeat (first | (with_reducible assumption) | (with_reducible refine Row5.alloc ?_ _) | (with_reducible refine Row5.drew ?_) | (with_reducible refine Row5.drewN ?_ _))); have DXf1_3 : DR wf1_3 s1 x := DR.keep hx1_3 DXf1_2; have DYf1_3 : DR wf1_3 s2 y := DR.keep hx1_3 hr1_2))
  have BW2 : Below w.heap.size w wf1_1 := btr (by repeat (first | (with_reducible exact BW1) | (with_reducible refine bal ?_ _) | (with_reducible refine Below.drew ?_) | (with_reducible refine bdn ?_ _))) hb1_1
  have X2 : Row5 wf1_1 w.heap.size (.bool ga) (.int .u64 (lb 0 x)) (.int .u64 (lb 1 x)) (.int .u64 (lb 2 x)) (.int .u64 (lb 3 x)) := Row5.keep hb1_1 (by repeat (first | (with_reducible exact X1) | (with_reducible refine Row5.alloc ?_ _) | (with_reducible refine Row5.drew ?_)))
  have Y2 : Row5 wf1_1 (w.heap.size + 1) (.bool gb) (.int .u64 (lb 0 y)) (.int .u64 (lb 1 y)) (.int .u64 (lb 2 y)) (.int .u64 (lb 3 y)) := Row5.keep hb1_1 (by repeat (first | (with_reducible exact Y1) | (with_reducible refine Row5.alloc ?_ _) | (with_reducible refine Row5.drew ?_)))
  clear X1 Y1 Xf1 Yf1 BW1
  have BW3 : Below w.heap.size w wf1_2 := btr (by repeat (first | (with_reducible exact BW2) | (with_reducible refine bal ?_ _) | (with_reducible refine Below.drew ?_) | (with_reducible refine bdn ?_ _))) hb1_2
  have X3 : Row5 wf1_2 w.heap.size (.bool ga) (.int .u64 (lb 0 x)) (.int .u64 (lb 1 x)) (.int .u64 (lb 2 x)) (.int .u64 (lb 3 x)) := Row5.keep hb1_2 (by repeat (first | (with_reducible exact X2) | (with_reducible refine Row5.alloc ?_ _) | (with_reducible refine Row5.drew ?_)))
  have Y3 : Row5 wf1_2 (w.heap.size + 1) (.bool gb) (.int .u64 (lb 0 y)) (.int .u64 (lb 1 y)) (.int .u64 (lb 2 y)) (.int .u64 (lb 3 y)) := Row5.keep hb1_2 (by repeat (first | (with_reducible exact Y2) | (with_reducible refine Row5.alloc ?_ _) | (with_reducible refine Row5.drew ?_)))
  clear X2 Y2 Xf2 Yf2 BW2
  have BW4 : Below w.heap.size w wf1_3 := btr (by repeat (first | (with_reducible exact BW3) | (with_reducible refine bal ?_ _) | (with_reducible refine Below.drew ?_) | (with_reducible refine bdn ?_ _))) hb1_3
  have X4 : Row5 wf1_3 w.heap.size (.bool ga) (.int .u64 (lb 0 x)) (.int .u64 (lb 1 x)) (.int .u64 (lb 2 x)) (.int .u64 (lb 3 x)) := Row5.keep hb1_3 (by repeat (first | (with_reducible exact X3) | (with_reducible refine Row5.alloc ?_ _) | (with_reducible refine Row5.drew ?_)))
  have Y4 : Row5 wf1_3 (w.heap.size + 1) (.bool gb) (.int .u64 (lb 0 y)) (.int .u64 (lb 1 y)) (.int .u64 (lb 2 y)) (.int .u64 (lb 3 y)) := Row5.keep hb1_3 (by repeat (first | (with_reducible exact Y3) | (with_reducible refine Row5.alloc ?_ _) | (with_reducible refine Row5.drew ?_)))
  clear X3 Y3 Xf3 Yf3 BW3
  have DX4 : DR wf1_3 s1 x := DXf1_3
  have DY4 : DR wf1_3 s2 y := DYf1_3
  clear hb1_1 hx1_1
  clear hb1_2 hx1_2
  clear hb1_3 hx1_3
  try clear DXf1_1
  try clear DYf1_1
  try clear DXf1_2
  try clear DYf1_2
  try clear DXf1_3
  try clear DYf1_3
  try clear hr1_1
  try clear hr1_2
  obtain ⟨Xc0, Xc1, Xc2, Xc3, Xc4⟩ := X4.parts
  obtain ⟨Xf0, Xf1, Xf2, Xf3, Xf4⟩ := X4.free
  obtain ⟨Yc0, Yc1, Yc2, Yc3, Yc4⟩ := Y4.parts
  have HR := Lib.hid hr; clear hr
  rcases HCC.out with h3 | h3 | h3 <;> cases gb
  all_goals
    subst h3
    go_wp2
    go_ret
    exact ⟨congrArg (fun b => Ending.returned (.bool b)) (by rw [HR.out]; simp), BW4⟩
theorem rcv_three (x y : Nat) : rcv x y = -1 ∨ rcv x y = 0 ∨ rcv x y = 1 := by unfold rcv; split <;> (try split) <;> simp
theorem rclo_z (a b : Int) (ha : a.natAbs < 2 ^ 256) (hb : b.natAbs < 2 ^ 256) (w : World) :
    Calls Tryz.prog 25 #[Iz a, Iz b, .bool true] w fun e w' => e = .returned (.bool (clo a b)) ∧ Below w.heap.size w w' := by
  refine rclo_core (decide (a < 0)) (decide (b < 0)) a.natAbs b.natAbs ha hb _ rfl (rcv_three _ _) _ ?_ w
  unfold clo rcv
  have e : (!decide (a < 0)) = decide (0 ≤ a) := by by_cases h : a < 0 <;> simp [h] <;> omega
  rw [e]
  by_cases h1 : a.natAbs < b.natAbs
  · simp [h1]
  · by_cases h2 : b.natAbs < a.natAbs
    · rw [if_neg h1, if_pos h2, decide_eq_false h1, decide_eq_false (show ¬ a.natAbs = b.natAbs by omega)]; simp
    · rw [if_neg h1, if_neg h2, decide_eq_false h1, decide_eq_true (show a.natAbs = b.natAbs by omega)]; simp
set_option maxRecDepth 100000 in
theorem rclo_none (g : Bool) (x0 x1 x2 x3 : Int) (h : Bool) (y0 y1 y2 y3 : Int) (w : World) :
    Calls Tryz.prog 25 #[.agg #[.bool g, .int .u64 x0, .int .u64 x1, .int .u64 x2, .int .u64 x3], .agg #[.bool h, .int .u64 y0, .int .u64 y1, .int .u64 y2, .int .u64 y3], .bool false] w fun e w' => e = .returned (.bool true) ∧ Below w.heap.size w w' := by
  go_enter Tryz.func25, Tryz.ntmps25
  go_wp2
  go_ret
  exact ⟨rfl, (by repeat (first | (with_reducible exact Below.refl _ _) | (with_reducible refine bal ?_ _) | (with_reducible refine Below.drew ?_) | (with_reducible refine bdn ?_ _)))⟩
theorem rclo_best (a : Int) (b : Option Int) (ha : a.natAbs < 2 ^ 256) (hb : (b.getD 0).natAbs < 2 ^ 256) (w : World) :
    Calls Tryz.prog 25 #[Iz a, Iz (b.getD 0), .bool b.isSome] w fun e w' => e = .returned (.bool (bestB a b)) ∧ Below w.heap.size w w' := by
  cases b with
  | none => exact rclo_none _ _ _ _ _ _ _ _ _ _ w
  | some b => exact rclo_z a b ha hb w

/-- The pairs as they lie. -/
def Cl (W : World) (bp : Nat) (P : List (Int × Int)) : Prop := ∀ (i : Nat) (p : Int × Int), P[i]? = some p → C12 W bp (i * 12) (rsp (ofSp p))
theorem Cl.keep {W W' : World} {bp : Nat} {P : List (Int × Int)} (h : Cl W bp P) (hb : Below W.heap.size W W') : Cl W' bp P := fun i p hp => (h i p hp).keep hb
theorem Cl.set {W : World} {bp : Nat} {P : List (Int × Int)} (h : Cl W bp P) {D : Nat} (hD : 0 < P.length → D < bp) {i : Nat} (u : Value) : Cl (W.setCell ⟨D, i, none⟩ u) bp P := fun k p hp j v hv => cell_set9 (h k p hp j v hv) (by have := hD (by have := (List.getElem?_eq_some_iff.1 hp).1; omega); omega) u
/-- Three numbers in blocks of their own. -/
def R3 (W : World) (B : Nat) (x y z : Int) : Prop := Row5 W B (.bool (decide (x < 0))) (.int .u64 (lb 0 (x).natAbs)) (.int .u64 (lb 1 (x).natAbs)) (.int .u64 (lb 2 (x).natAbs)) (.int .u64 (lb 3 (x).natAbs)) ∧ Row5 W (B + 1) (.bool (decide (y < 0))) (.int .u64 (lb 0 (y).natAbs)) (.int .u64 (lb 1 (y).natAbs)) (.int .u64 (lb 2 (y).natAbs)) (.int .u64 (lb 3 (y).natAbs)) ∧ Row5 W (B + 1 + 1) (.bool (decide (z < 0))) (.int .u64 (lb 0 (z).natAbs)) (.int .u64 (lb 1 (z).natAbs)) (.int .u64 (lb 2 (z).natAbs)) (.int .u64 (lb 3 (z).natAbs))
theorem R3.keep {W W' : World} {B : Nat} {x y z : Int} (h : R3 W B x y z) (hb : Below W.heap.size W W') : R3 W' B x y z := ⟨h.1.keep hb, h.2.1.keep hb, h.2.2.keep hb⟩
theorem R3.set {W : World} {B : Nat} {x y z : Int} (h : R3 W B x y z) {D : Nat} (hD : D < B) {i : Nat} (u : Value) : R3 (W.setCell ⟨D, i, none⟩ u) B x y z := ⟨h.1.set (by omega) u, h.2.1.set (by omega) u, h.2.2.set (by omega) u⟩
theorem rtry_no {ex ro : Bool} {p : Int × Int} {b : Option Int} {m : Nat} {a : Int} (e : nearT (fromP p) (decide (m % 2 = 0)) (decide (m < 2)) = a) (h : ¬ (wantJ ex ro m = true ∧ a.natAbs < 2 ^ 256 ∧ p.1 ≤ a ∧ a ≤ p.2 ∧ bestB a b = true)) : rtry ex ro p b m = b := by
  subst e
  unfold rtry
  rw [if_neg (fun ht => h (by have := rtakes_iff.1 ht; exact ⟨this.1.1, this.1.2.1, this.1.2.2.1, this.1.2.2.2, this.2⟩))]
theorem rtry_yes {ex ro : Bool} {p : Int × Int} {b : Option Int} {m : Nat} {a : Int} (e : nearT (fromP p) (decide (m % 2 = 0)) (decide (m < 2)) = a) (h0 : wantJ ex ro m = true) (h1 : a.natAbs < 2 ^ 256) (h2 : p.1 ≤ a) (h3 : a ≤ p.2) (h4 : bestB a b = true) : rtry ex ro p b m = some a := by
  subst e
  unfold rtry
  rw [if_pos (rtakes_iff.2 ⟨⟨h0, h1, h2, h3⟩, h4⟩)]
theorem want_ex {ro : Bool} {ex : Bool} {m : Nat} (h : decide (m < 2) = true) : wantJ ex ro m = ex := by unfold wantJ; rw [if_pos (of_decide_eq_true h)]
theorem want_ro {ro : Bool} {ex : Bool} {m : Nat} (h : decide (m < 2) = false) : wantJ ex ro m = ro := by unfold wantJ; rw [if_neg (of_decide_eq_false h)]
theorem four_at {m : Nat} (h : m < 4) : [0, 1, 2, 3][m]? = some m := by
  match m, h with
  | 0, _ => rfl
  | 1, _ => rfl
  | 2, _ => rfl
  | 3, _ => rfl
/-- entrepotref1.Near at a whole number. -/
theorem rnear_iz (z : Int) (hz : z.natAbs < 2 ^ 256) (up ex : Bool) (w : World) : Calls Tryz.prog 24 #[Iz z, .bool up, .bool ex] w fun e w' => e = .returned (Znum (nearT z up ex)) ∧ Below w.heap.size w w' :=
  rnear_z (decide (z < 0)) z.natAbs hz (by rintro ⟨h1, h2⟩; have := of_decide_eq_true h1; omega) z (by by_cases h : z < 0 <;> simp [h] <;> omega) up ex w
/-- What Norm answers of an argument. -/
def NormA (a : Value) (T : Option Int) (ex ro : Bool) (w : World) : Prop := ∀ W, Below w.heap.size w W → Calls Tryz.prog 21 #[a] W fun e w' => ∃ (lp : Option Addr) (cp bp : Nat) (P : List (Int × Int)), e = .returned (.slice lp P.length cp) ∧ (0 < P.length → lp = some ⟨bp, 0, none⟩ ∧ W.heap.size ≤ bp) ∧ Cl w' bp P ∧ (∀ p ∈ P, -topM ≤ p.1 ∧ p.1 ≤ p.2 ∧ p.2 ≤ topM) ∧ P.length ≤ 1000 ∧ rpickT P ex ro = T ∧ Below W.heap.size W w'
set_option maxRecDepth 100000 in
set_option maxHeartbeats 16000000 in
theorem rpick_core (ex ro : Bool) (a : Value) (T : Option Int) (w : World) (kN : NormA a T ex ro w) :
    Calls Tryz.prog 7 #[a, .bool ex, .bool ro] w fun e w' => e = .returned (.tuple #[Iz (T.getD 0), .bool T.isSome]) ∧ Below w.heap.size w w' := by
  unfold NormA at kN
  have KN := Lib.hid kN
  clear kN
  go_enter Tryz.func7, Tryz.ntmps7
  go_wp2_with fail
  ((with_reducible refine (KN.out _ (by repeat (first | (with_reducible exact Below.refl _ _) | (with_reducible refine bal ?_ _) | (with_reducible refine Below.drew ?_) | (with_reducible refine bdn ?_ _)))).mono ?_); rintro e w1 ⟨lp, cp, bp, P, rfl, hLA, hCl, hRP, hlP, hT, hb⟩)
  have hR1 : Row5 w1 w.heap.size (.bool false) (.int .u64 0) (.int .u64 0) (.int .u64 0) (.int .u64 0) := Row5.keep hb (Row5.alloc (Row5.new w (.bool false) (.int .u64 0) (.int .u64 0) (.int .u64 0) (.int .u64 0)) (.cells #[.bool false, .int .u64 0, .int .u64 0, .int .u64 0, .int .u64 0] 29))
  have hD1 : Row5 w1 (w.heap.size + 1) (.bool false) (.int .u64 0) (.int .u64 0) (.int .u64 0) (.int .u64 0) := Row5.keep hb (by have := Row5.new (w.alloc (.cells #[.bool false, .int .u64 0, .int .u64 0, .int .u64 0, .int .u64 0] 29)) (.bool false) (.int .u64 0) (.int .u64 0) (.int .u64 0) (.int .u64 0); rw [size_alloc9] at this; exact this)
  have hB1 : Below w.heap.size w w1 := btr (bal (bal (Below.refl w.heap.size w) (.cells #[.bool false, .int .u64 0, .int .u64 0, .int .u64 0, .int .u64 0] 29)) (.cells #[.bool false, .int .u64 0, .int .u64 0, .int .u64 0, .int .u64 0] 29)) hb
  have HLA : Hid (0 < P.length → lp = some ⟨bp, 0, none⟩) := Lib.hid (fun h => (hLA h).1)
  have HBP : Hid (0 < P.length → w.heap.size + 1 < bp) := Lib.hid (fun h => by have h0 := (hLA h).2; simp at h0; omega)
  have HT := Lib.hid hT; have HRP := Lib.hid hRP; have C1 := Lib.hid hCl; have D1 := Lib.hid hD1; have R1 := Lib.hid hR1; have B1 := Lib.hid hB1
  have hs1 := hR1.lt
  have hs2 := hD1.lt
  clear hb hLA hCl hRP hT hR1 hD1 hB1
  go_wp2
  go_loopw [9, 11] (fun fd i wr => ∃ (k : Nat) (b : Option Int) (p' : Bool), k ≤ P.length ∧ i = .int .i64 k ∧ fd = .bool p' ∧ Hid (p' = b.isSome ∧ PkI w (w.heap.size + 1) w.heap.size wr b ∧ (P.drop k).foldl (fun b p => [0, 1, 2, 3].foldl (rtry ex ro p) b) b = T) ∧ Hid (Cl wr bp P)) (fun _ i _ => P.length - (intOf i).toNat)
  case atStart =>
    refine ⟨0, none, false, Nat.zero_le _, rfl, rfl, Lib.hid ⟨rfl, ⟨?_, R1.out, B1.out, by decide⟩, HT.out⟩, C1⟩
    simp only [Option.getD_none, Int.natAbs_zero, lb_zero]
    exact D1.out
  case round =>
    obtain ⟨k, b, p', hk, rfl, rfl, SI, CI⟩ := hrel
    by_cases hlt : k < P.length
    · obtain ⟨p, hp⟩ : ∃ p, P[k]? = some p := ⟨P[k], List.getElem?_eq_getElem hlt⟩
      obtain rfl : lp = some ⟨bp, 0, none⟩ := HLA.out (by omega)
      obtain ⟨r1, r2, r3⟩ := HRP.out p (List.mem_of_getElem? hp)
      have HFK := Lib.hid (fold_at (f := fun b p => [0, 1, 2, 3].foldl (rtry ex ro p) b) hp b)
      have CP := CI.out k p hp
      have KP0 := fun W => rends_any (ofSp p) W
      rw [loE_of, hiE_of] at KP0
      obtain ⟨psl, psh, pgl, pxl, pgh, pxh, prs⟩ : ∃ hl hh gl xl gh xh, rsp (ofSp p) = ⟨hl, hh, gl, xl, gh, xh⟩ := ⟨_, _, _, _, _, _, rfl⟩
      rw [prs] at KP0 CP
      simp only [RS.val] at KP0
      have KP : Hid (∀ W, Calls Tryz.prog 22 #[V12 psl psh pgl (lb 0 pxl) (lb 1 pxl) (lb 2 pxl) (lb 3 pxl) pgh (lb 0 pxh) (lb 1 pxh) (lb 2 pxh) (lb 3 pxh)] W fun e w' => e = .returned (.tuple #[.agg #[.bool (decide (p.1 < 0)), .int .u64 (lb 0 (p.1).natAbs), .int .u64 (lb 1 (p.1).natAbs), .int .u64 (lb 2 (p.1).natAbs), .int .u64 (lb 3 (p.1).natAbs)], .agg #[.bool (decide (p.2 < 0)), .int .u64 (lb 0 (p.2).natAbs), .int .u64 (lb 1 (p.2).natAbs), .int .u64 (lb 2 (p.2).natAbs), .int .u64 (lb 3 (p.2).natAbs)]]) ∧ Below W.heap.size W w') := Lib.hid KP0
      clear KP0
      obtain ⟨c0, c1, c2, c3, c4, c5, c6, c7, c8, c9, c10, c11⟩ := CP.twelve
      have hwr : w.heap.size + 1 < wr.heap.size := SI.out.2.1.best.lt
      have HP := Lib.hid hp
      clear hp prs CP
      generalize wr = wq at *
      go_wp2_with fail
      ((with_reducible refine (KP.out _).mono ?_); rintro e w3 ⟨rfl, hb⟩)
      have L3 := Row5.alloc (Row5.alloc (Row5.new w3 (.bool (decide (p.1 < 0))) (.int .u64 (lb 0 (p.1).natAbs)) (.int .u64 (lb 1 (p.1).natAbs)) (.int .u64 (lb 2 (p.1).natAbs)) (.int .u64 (lb 3 (p.1).natAbs))) (.cells #[.bool (decide (p.2 < 0)), .int .u64 (lb 0 (p.2).natAbs), .int .u64 (lb 1 (p.2).natAbs), .int .u64 (lb 2 (p.2).natAbs), .int .u64 (lb 3 (p.2).natAbs)] 29)) (.cells #[.bool false, .int .u64 0, .int .u64 0, .int .u64 0, .int .u64 0] 29)
      have H3 := Row5.alloc (Row5.new (w3.alloc (.cells #[.bool (decide (p.1 < 0)), .int .u64 (lb 0 (p.1).natAbs), .int .u64 (lb 1 (p.1).natAbs), .int .u64 (lb 2 (p.1).natAbs), .int .u64 (lb 3 (p.1).natAbs)] 29)) (.bool (decide (p.2 < 0))) (.int .u64 (lb 0 (p.2).natAbs)) (.int .u64 (lb 1 (p.2).natAbs)) (.int .u64 (lb 2 (p.2).natAbs)) (.int .u64 (lb 3 (p.2).natAbs))) (.cells #[.bool false, .int .u64 0, .int .u64 0, .int .u64 0, .int .u64 0] 29)
      have F3 := Row5.new ((w3.alloc (.cells #[.bool (decide (p.1 < 0)), .int .u64 (lb 0 (p.1).natAbs), .int .u64 (lb 1 (p.1).natAbs), .int .u64 (lb 2 (p.1).natAbs), .int .u64 (lb 3 (p.1).natAbs)] 29)).alloc (.cells #[.bool (decide (p.2 < 0)), .int .u64 (lb 0 (p.2).natAbs), .int .u64 (lb 1 (p.2).natAbs), .int .u64 (lb 2 (p.2).natAbs), .int .u64 (lb 3 (p.2).natAbs)] 29)) (.bool false) (.int .u64 0) (.int .u64 0) (.int .u64 0) (.int .u64 0)
      rw [size_alloc9] at H3
      rw [size_alloc9, size_alloc9] at F3
      have D3 := Lib.hid (bal (bal (bal (btr (Below.refl wq.heap.size wq) hb) (.cells #[.bool (decide (p.1 < 0)), .int .u64 (lb 0 (p.1).natAbs), .int .u64 (lb 1 (p.1).natAbs), .int .u64 (lb 2 (p.1).natAbs), .int .u64 (lb 3 (p.1).natAbs)] 29)) (.cells #[.bool (decide (p.2 < 0)), .int .u64 (lb 0 (p.2).natAbs), .int .u64 (lb 1 (p.2).natAbs), .int .u64 (lb 2 (p.2).natAbs), .int .u64 (lb 3 (p.2).natAbs)] 29)) (.cells #[.bool false, .int .u64 0, .int .u64 0, .int .u64 0, .int .u64 0] 29))
      have hw3 : wq.heap.size ≤ w3.heap.size := hb.size
      have KA : Hid (∀ W, Calls Tryz.prog 23 #[.agg #[.bool (decide (p.1 < 0)), .int .u64 (lb 0 (p.1).natAbs), .int .u64 (lb 1 (p.1).natAbs), .int .u64 (lb 2 (p.1).natAbs), .int .u64 (lb 3 (p.1).natAbs)], .agg #[.bool false, .int .u64 0, .int .u64 0, .int .u64 0, .int .u64 0]] W fun e w' => e = .returned (.int .i64 (cmpv p.1 0)) ∧ Below W.heap.size W w') := Lib.hid (fun W => by have := rcmpint_z p.1 0 (inR_abs.1 (by unfold inR; omega)) (by decide) W; rw [Iz_zero9] at this; exact this)
      clear hb c0 c1 c2 c3 c4 c5 c6 c7 c8 c9 c10 c11
      obtain ⟨c0, c1, c2, c3, c4⟩ := L3.parts
      obtain ⟨d0, d1, d2, d3, d4⟩ := F3.parts
      go_wp2_with fail
      ((with_reducible refine (KA.out _).mono ?_); rintro e w4 ⟨rfl, hb⟩)
      have L4 := L3.keep hb; have H4 := H3.keep hb; have F4 := F3.keep hb
      have D4 := Lib.hid (btr D3.out hb)
      have hw4 : w3.heap.size + 1 + 1 < w4.heap.size := F4.lt
      clear hb c0 c1 c2 c3 c4 d0 d1 d2 d3 d4 L3 H3 F3
      obtain ⟨z1, hz1⟩ : ∃ z, z = if 0 < p.1 then p.1 else 0 := ⟨_, rfl⟩
      have HZ1 := Lib.hid hz1
      clear hz1
      go_upto_if 41 with (fail)
      go_cut [] (fun wx => R3 wx w3.heap.size p.1 p.2 z1 ∧ Below wq.heap.size wq wx)
      case first =>
        by_cases h0 : 0 < p.1
        · have hc : 0 < cmpv p.1 0 := by unfold cmpv; rw [if_neg (by omega), if_neg (by omega)]; decide
          obtain ⟨c0, c1, c2, c3, c4⟩ := L4.parts
          obtain ⟨d0, d1, d2, d3, d4⟩ := F4.parts
          obtain ⟨f0, f1, f2, f3, f4⟩ := F4.free
          have hz := HZ1.out
          rw [if_pos h0] at hz
          subst hz
          go_wp2
          go_meet
          exact ⟨⟨((((L4.set (c := w3.heap.size + 1 + 1) (by omega) (i := 0) (.bool (decide (p.1 < 0)))).set (c := w3.heap.size + 1 + 1) (by omega) (i := 1) (.int .u64 (lb 0 (p.1).natAbs))).set (c := w3.heap.size + 1 + 1) (by omega) (i := 2) (.int .u64 (lb 1 (p.1).natAbs))).set (c := w3.heap.size + 1 + 1) (by omega) (i := 3) (.int .u64 (lb 2 (p.1).natAbs))).set (c := w3.heap.size + 1 + 1) (by omega) (i := 4) (.int .u64 (lb 3 (p.1).natAbs)), ((((H4.set (c := w3.heap.size + 1 + 1) (by omega) (i := 0) (.bool (decide (p.1 < 0)))).set (c := w3.heap.size + 1 + 1) (by omega) (i := 1) (.int .u64 (lb 0 (p.1).natAbs))).set (c := w3.heap.size + 1 + 1) (by omega) (i := 2) (.int .u64 (lb 1 (p.1).natAbs))).set (c := w3.heap.size + 1 + 1) (by omega) (i := 3) (.int .u64 (lb 2 (p.1).natAbs))).set (c := w3.heap.size + 1 + 1) (by omega) (i := 4) (.int .u64 (lb 3 (p.1).natAbs)), Row5.set5 F4 (.bool (decide (p.1 < 0))) (.int .u64 (lb 0 (p.1).natAbs)) (.int .u64 (lb 1 (p.1).natAbs)) (.int .u64 (lb 2 (p.1).natAbs)) (.int .u64 (lb 3 (p.1).natAbs))⟩, bsc5 D4.out (show wq.heap.size ≤ w3.heap.size + 1 + 1 by omega) (.bool (decide (p.1 < 0))) (.int .u64 (lb 0 (p.1).natAbs)) (.int .u64 (lb 1 (p.1).natAbs)) (.int .u64 (lb 2 (p.1).natAbs)) (.int .u64 (lb 3 (p.1).natAbs))⟩
        · have hc : ¬ 0 < cmpv p.1 0 := by unfold cmpv; split <;> (try split) <;> omega
          have hz := HZ1.out
          rw [if_neg h0] at hz
          subst hz
          go_wp2
          go_meet
          refine ⟨⟨L4, H4, ?_⟩, D4.out⟩
          simp only [Int.natAbs_zero, lb_zero]
          exact F4
      case rest =>
        generalize wc = w5 at *
        clear L4 H4 F4 D4
        obtain ⟨X5, hb5⟩ := hcut
        have D5 := Lib.hid hb5
        clear hb5
        have hw5 : w3.heap.size + 1 + 1 < w5.heap.size := X5.2.2.lt
        have hz1r : z1.natAbs < 2 ^ 256 := by rw [HZ1.out]; split; exact inR_abs.1 (by unfold inR; omega); decide
        have KB : Hid (∀ W, Calls Tryz.prog 23 #[.agg #[.bool (decide (p.2 < 0)), .int .u64 (lb 0 (p.2).natAbs), .int .u64 (lb 1 (p.2).natAbs), .int .u64 (lb 2 (p.2).natAbs), .int .u64 (lb 3 (p.2).natAbs)], .agg #[.bool (decide (z1 < 0)), .int .u64 (lb 0 (z1).natAbs), .int .u64 (lb 1 (z1).natAbs), .int .u64 (lb 2 (z1).natAbs), .int .u64 (lb 3 (z1).natAbs)]] W fun e w' => e = .returned (.int .i64 (cmpv p.2 z1)) ∧ Below W.heap.size W w') := Lib.hid (fun W => rcmpint_z _ _ (inR_abs.1 (by unfold inR; omega)) hz1r W)
        obtain ⟨c0, c1, c2, c3, c4⟩ := X5.2.1.parts
        obtain ⟨d0, d1, d2, d3, d4⟩ := X5.2.2.parts
        clear hz1r
        go_wp2_with fail
        ((with_reducible refine (KB.out _).mono ?_); rintro e w6 ⟨rfl, hb⟩)
        have L6 := X5.1.keep hb; have H6 := X5.2.1.keep hb; have F6 := X5.2.2.keep hb
        have D6 := Lib.hid (btr D5.out hb)
        have hw6 : w3.heap.size + 1 + 1 < w6.heap.size := F6.lt
        clear hb c0 c1 c2 c3 c4 d0 d1 d2 d3 d4 X5
        obtain ⟨z, hz0⟩ : ∃ z, z = fromP p := ⟨_, rfl⟩
        have HZ := Lib.hid hz0.symm
        have HZ2 : Hid (z = if p.2 < z1 then p.2 else z1) := Lib.hid (by rw [hz0, HZ1.out]; rfl)
        clear hz0
        go_upto_if 46 with (fail)
        go_cut [] (fun wx => R3 wx w3.heap.size p.1 p.2 z ∧ Below wq.heap.size wq wx)
        case first =>
          by_cases h0 : p.2 < z1
          · have hc : cmpv p.2 z1 < 0 := by unfold cmpv; rw [if_pos h0]; decide
            obtain ⟨c0, c1, c2, c3, c4⟩ := H6.parts
            obtain ⟨d0, d1, d2, d3, d4⟩ := F6.parts
            obtain ⟨f0, f1, f2, f3, f4⟩ := F6.free
            have hz := HZ2.out
            rw [if_pos h0] at hz
            subst hz
            go_wp2
            go_meet
            exact ⟨⟨((((L6.set (c := w3.heap.size + 1 + 1) (by omega) (i := 0) (.bool (decide (p.2 < 0)))).set (c := w3.heap.size + 1 + 1) (by omega) (i := 1) (.int .u64 (lb 0 (p.2).natAbs))).set (c := w3.heap.size + 1 + 1) (by omega) (i := 2) (.int .u64 (lb 1 (p.2).natAbs))).set (c := w3.heap.size + 1 + 1) (by omega) (i := 3) (.int .u64 (lb 2 (p.2).natAbs))).set (c := w3.heap.size + 1 + 1) (by omega) (i := 4) (.int .u64 (lb 3 (p.2).natAbs)), ((((H6.set (c := w3.heap.size + 1 + 1) (by omega) (i := 0) (.bool (decide (p.2 < 0)))).set (c := w3.heap.size + 1 + 1) (by omega) (i := 1) (.int .u64 (lb 0 (p.2).natAbs))).set (c := w3.heap.size + 1 + 1) (by omega) (i := 2) (.int .u64 (lb 1 (p.2).natAbs))).set (c := w3.heap.size + 1 + 1) (by omega) (i := 3) (.int .u64 (lb 2 (p.2).natAbs))).set (c := w3.heap.size + 1 + 1) (by omega) (i := 4) (.int .u64 (lb 3 (p.2).natAbs)), Row5.set5 F6 (.bool (decide (p.2 < 0))) (.int .u64 (lb 0 (p.2).natAbs)) (.int .u64 (lb 1 (p.2).natAbs)) (.int .u64 (lb 2 (p.2).natAbs)) (.int .u64 (lb 3 (p.2).natAbs))⟩, bsc5 D6.out (show wq.heap.size ≤ w3.heap.size + 1 + 1 by omega) (.bool (decide (p.2 < 0))) (.int .u64 (lb 0 (p.2).natAbs)) (.int .u64 (lb 1 (p.2).natAbs)) (.int .u64 (lb 2 (p.2).natAbs)) (.int .u64 (lb 3 (p.2).natAbs))⟩
          · have hc : ¬ cmpv p.2 z1 < 0 := by unfold cmpv; rw [if_neg h0]; split <;> decide
            have hz := HZ2.out
            rw [if_neg h0] at hz
            subst hz
            go_wp2
            go_meet
            exact ⟨⟨L6, H6, F6⟩, D6.out⟩
        case rest =>
          generalize wc = w7 at *
          clear L6 H6 F6 D6
          obtain ⟨X7, hb7⟩ := hcut
          have P7 := Lib.hid (SI.out.2.1.keep hb7); have C7 := Lib.hid (CI.out.keep hb7); have X7' := Lib.hid X7
          have HSI := Lib.hid SI.out.2.2; have HS1 := Lib.hid SI.out.1
          have HZA : Hid (z.natAbs < 2 ^ 256) := Lib.hid (by rw [← HZ.out]; exact from_abs ⟨r1, r2, r3⟩)
          clear hb7 X7 SI CI D5
          go_wp2
          go_loopw [9, 15] (fun fd j wj => ∃ (m : Nat) (b' : Option Int) (p2 : Bool), m ≤ 4 ∧ j = .int .i64 m ∧ fd = .bool p2 ∧ Hid (p2 = b'.isSome ∧ PkI w (w.heap.size + 1) w.heap.size wj b' ∧ ([0, 1, 2, 3].drop m).foldl (rtry ex ro p) b' = [0, 1, 2, 3].foldl (rtry ex ro p) b) ∧ Hid (R3 wj w3.heap.size p.1 p.2 z) ∧ Hid (Cl wj bp P)) (fun _ j _ => 4 - (intOf j).toNat)
          case atStart => exact ⟨0, b, p', Nat.zero_le _, rfl, rfl, Lib.hid ⟨HS1.out, P7.out, rfl⟩, X7', C7⟩
          case round =>
            obtain ⟨m, b', p2, hm, rfl, rfl, SJ, XJ, CJ⟩ := hrel
            by_cases hltm : m < 4
            · have HFM := Lib.hid (fold_at (f := rtry ex ro p) (four_at hltm) b')
              obtain ⟨want, hwant⟩ : ∃ q, decide (m < 2) = q := ⟨_, rfl⟩
              obtain ⟨up, hup⟩ : ∃ q, decide (m % 2 = 0) = q := ⟨_, rfl⟩
              have HW := Lib.hid hwant; have HU := Lib.hid hup
              clear hwant hup
              go_upto_region 15 with (fail)
              go_cut [16, 17] (fun s16 s17 wx => s16 = .bool want ∧ s17 = .bool up ∧ wx = wr)
              case first =>
                have h4 : m = 0 ∨ m = 1 ∨ m = 2 ∨ m = 3 := by omega
                have hw2 := HW.out; have hu2 := HU.out
                clear HFM SJ XJ CJ hltm hm
                rcases h4 with rfl | rfl | rfl | rfl
                all_goals
                  go_wp2
                  go_meet
                  exact ⟨by rw [← hw2]; rfl, by rw [← hu2]; rfl, rfl⟩
              case rest =>
                obtain ⟨rfl, rfl, rfl⟩ := hcut
                cases want
                · cases ro
                  · have HTK : Hid (rtry ex false p b' m = b') := Lib.hid (rtry_no rfl (fun h => by have := h.1; rw [want_ro HW.out] at this; cases this))
                    go_wp2
                    go_roundw
                    case rel => exact ⟨m + 1, b', p2, by omega, by go_num, rfl, Lib.hid ⟨SJ.out.1, SJ.out.2.1, by rw [← SJ.out.2.2, HFM.out, HTK.out]⟩, XJ, CJ⟩
                    case measure => simp [intOf]; omega
                  · obtain ⟨a, ha⟩ : ∃ a, nearT z up false = a := ⟨_, rfl⟩
                    have HA : Hid (nearT (fromP p) (decide (m % 2 = 0)) (decide (m < 2)) = a) := Lib.hid (by rw [HZ.out, HU.out, HW.out]; exact ha)
                    obtain ⟨x0, x1, x2, x3, x4⟩ := XJ.out.2.2.parts
                    by_cases hab : a.natAbs < 2 ^ 256
                    · have KNR : Hid (∀ W, Calls Tryz.prog 24 #[.agg #[.bool (decide (z < 0)), .int .u64 (lb 0 (z).natAbs), .int .u64 (lb 1 (z).natAbs), .int .u64 (lb 2 (z).natAbs), .int .u64 (lb 3 (z).natAbs)], .bool up, .bool false] W fun e w' => e = .returned (.tuple #[.agg #[.bool (decide (a < 0)), .int .u64 (lb 0 (a).natAbs), .int .u64 (lb 1 (a).natAbs), .int .u64 (lb 2 (a).natAbs), .int .u64 (lb 3 (a).natAbs)], .bool true]) ∧ Below W.heap.size W w') := Lib.hid (fun W => by have := rnear_iz z HZA.out up false W; rw [ha] at this; unfold Znum at this; rw [if_pos hab] at this; exact this)
                      have HAB := Lib.hid hab
                      clear ha hab
                      go_wp2_with fail
                      ((with_reducible refine (KNR.out _).mono ?_); rintro e w8 ⟨rfl, hb⟩)
                      have P8 := Lib.hid (SJ.out.2.1.keep hb); have X8 := Lib.hid (XJ.out.keep hb); have C8 := Lib.hid (CJ.out.keep hb)
                      have Y8 := Row5.new w8 (.bool (decide (a < 0))) (.int .u64 (lb 0 (a).natAbs)) (.int .u64 (lb 1 (a).natAbs)) (.int .u64 (lb 2 (a).natAbs)) (.int .u64 (lb 3 (a).natAbs))
                      have hw8 : w3.heap.size + 1 + 1 < w8.heap.size := X8.out.2.2.lt
                      clear hb x0 x1 x2 x3 x4
                      have KC1 : Hid (∀ W, Calls Tryz.prog 23 #[.agg #[.bool (decide (p.1 < 0)), .int .u64 (lb 0 (p.1).natAbs), .int .u64 (lb 1 (p.1).natAbs), .int .u64 (lb 2 (p.1).natAbs), .int .u64 (lb 3 (p.1).natAbs)], .agg #[.bool (decide (a < 0)), .int .u64 (lb 0 (a).natAbs), .int .u64 (lb 1 (a).natAbs), .int .u64 (lb 2 (a).natAbs), .int .u64 (lb 3 (a).natAbs)]] W fun e w' => e = .returned (.int .i64 (cmpv p.1 a)) ∧ Below W.heap.size W w') := Lib.hid (fun W => rcmpint_z _ _ (inR_abs.1 (by unfold inR; omega)) HAB.out W)
                      have KC2 : Hid (∀ W, Calls Tryz.prog 23 #[.agg #[.bool (decide (a < 0)), .int .u64 (lb 0 (a).natAbs), .int .u64 (lb 1 (a).natAbs), .int .u64 (lb 2 (a).natAbs), .int .u64 (lb 3 (a).natAbs)], .agg #[.bool (decide (p.2 < 0)), .int .u64 (lb 0 (p.2).natAbs), .int .u64 (lb 1 (p.2).natAbs), .int .u64 (lb 2 (p.2).natAbs), .int .u64 (lb 3 (p.2).natAbs)]] W fun e w' => e = .returned (.int .i64 (cmpv a p.2)) ∧ Below W.heap.size W w') := Lib.hid (fun W => rcmpint_z _ _ HAB.out (inR_abs.1 (by unfold inR; omega)) W)
                      obtain ⟨x0, x1, x2, x3, x4⟩ := (X8.out.1.alloc (.cells #[.bool (decide (a < 0)), .int .u64 (lb 0 (a).natAbs), .int .u64 (lb 1 (a).natAbs), .int .u64 (lb 2 (a).natAbs), .int .u64 (lb 3 (a).natAbs)] 29)).parts
                      obtain ⟨y0, y1, y2, y3, y4⟩ := Y8.parts
                      go_wp2_with fail
                      ((with_reducible refine (KC1.out _).mono ?_); rintro e w9 ⟨rfl, hb⟩)
                      have hb9 := btr (bal (Below.refl w8.heap.size w8) (.cells #[.bool (decide (a < 0)), .int .u64 (lb 0 (a).natAbs), .int .u64 (lb 1 (a).natAbs), .int .u64 (lb 2 (a).natAbs), .int .u64 (lb 3 (a).natAbs)] 29)) hb
                      have P9 := Lib.hid (P8.out.keep hb9); have X9 := Lib.hid (X8.out.keep hb9); have C9 := Lib.hid (C8.out.keep hb9)
                      have Y9 := Y8.keep hb
                      have hw9 : w8.heap.size < w9.heap.size := Y9.lt
                      clear hb hb9 x0 x1 x2 x3 x4 y0 y1 y2 y3 y4 Y8
                      by_cases h1 : p.1 ≤ a
                      · have hc1 : cmpv p.1 a ≤ 0 := by unfold cmpv; split <;> (try split) <;> omega
                        obtain ⟨y0, y1, y2, y3, y4⟩ := Y9.parts
                        obtain ⟨x0, x1, x2, x3, x4⟩ := X9.out.2.1.parts
                        go_wp2_with fail
                        ((with_reducible refine (KC2.out _).mono ?_); rintro e w10 ⟨rfl, hb⟩)
                        have P10 := Lib.hid (P9.out.keep hb); have X10 := Lib.hid (X9.out.keep hb); have C10 := Lib.hid (C9.out.keep hb)
                        have Y10 := Y9.keep hb
                        have hw10 : w9.heap.size ≤ w10.heap.size := hb.size
                        clear hb x0 x1 x2 x3 x4 y0 y1 y2 y3 y4 Y9
                        by_cases h2 : a ≤ p.2
                        · have hc2 : cmpv a p.2 ≤ 0 := by unfold cmpv; split <;> (try split) <;> omega
                          obtain ⟨q, hq⟩ : ∃ q, bestB a b' = q := ⟨_, rfl⟩
                          have HQ := Lib.hid hq
                          have KCL : Hid (∀ W, Calls Tryz.prog 25 #[.agg #[.bool (decide (a < 0)), .int .u64 (lb 0 (a).natAbs), .int .u64 (lb 1 (a).natAbs), .int .u64 (lb 2 (a).natAbs), .int .u64 (lb 3 (a).natAbs)], .agg #[.bool (decide (b'.getD 0 < 0)), .int .u64 (lb 0 (b'.getD 0).natAbs), .int .u64 (lb 1 (b'.getD 0).natAbs), .int .u64 (lb 2 (b'.getD 0).natAbs), .int .u64 (lb 3 (b'.getD 0).natAbs)], .bool p2] W fun e w' => e = .returned (.bool q) ∧ Below W.heap.size W w') := Lib.hid (fun W => by have := rclo_best a b' HAB.out P10.out.rng W; rw [hq, ← SJ.out.1] at this; exact this)
                          clear hq
                          obtain ⟨y0, y1, y2, y3, y4⟩ := Y10.parts
                          obtain ⟨d0, d1, d2, d3, d4⟩ := P10.out.best.parts
                          go_wp2_with fail
                          ((with_reducible refine (KCL.out _).mono ?_); rintro e w11 ⟨rfl, hb⟩)
                          have P11 := Lib.hid (P10.out.keep hb); have X11 := Lib.hid (X10.out.keep hb); have C11 := Lib.hid (C10.out.keep hb)
                          have Y11 := Y10.keep hb
                          clear hb y0 y1 y2 y3 y4 d0 d1 d2 d3 d4 Y10
                          cases q
                          · have HTK : Hid (rtry ex true p b' m = b') := Lib.hid (rtry_no HA.out (fun h => absurd h.2.2.2.2 (by rw [HQ.out]; decide)))
                            go_wp2
                            go_roundw
                            case rel => exact ⟨m + 1, b', p2, by omega, by go_num, rfl, Lib.hid ⟨SJ.out.1, P11.out, by rw [← SJ.out.2.2, HFM.out, HTK.out]⟩, X11, C11⟩
                            case measure => simp [intOf]; omega
                          · have HTK : Hid (rtry ex true p b' m = some a) := Lib.hid (rtry_yes HA.out (want_ro HW.out) HAB.out h1 h2 HQ.out)
                            obtain ⟨y0, y1, y2, y3, y4⟩ := Y11.parts
                            obtain ⟨d0, d1, d2, d3, d4⟩ := P11.out.best.parts
                            obtain ⟨e0, e1, e2, e3, e4⟩ := P11.out.best.free
                            go_wp2
                            go_roundw
                            case rel => exact ⟨m + 1, some a, true, by omega, by go_num, rfl, Lib.hid ⟨rfl, P11.out.put (by omega) (by omega) HAB.out, by rw [← SJ.out.2.2, HFM.out, HTK.out]⟩, Lib.hid ((((((X11.out.set (by omega) _).set (by omega) _).set (by omega) _).set (by omega) _).set (by omega) _)), Lib.hid ((((((C11.out.set HBP.out _).set HBP.out _).set HBP.out _).set HBP.out _).set HBP.out _))⟩
                            case measure => simp [intOf]; omega
                        · have hc2 : ¬ cmpv a p.2 ≤ 0 := by unfold cmpv; split <;> (try split) <;> omega
                          have HTK : Hid (rtry ex true p b' m = b') := Lib.hid (rtry_no HA.out (fun h => absurd h.2.2.2.1 h2))
                          go_wp2
                          go_roundw
                          case rel => exact ⟨m + 1, b', p2, by omega, by go_num, rfl, Lib.hid ⟨SJ.out.1, P10.out, by rw [← SJ.out.2.2, HFM.out, HTK.out]⟩, X10, C10⟩
                          case measure => simp [intOf]; omega
                      · have hc1 : ¬ cmpv p.1 a ≤ 0 := by unfold cmpv; split <;> (try split) <;> omega
                        have HTK : Hid (rtry ex true p b' m = b') := Lib.hid (rtry_no HA.out (fun h => absurd h.2.2.1 h1))
                        go_wp2
                        go_roundw
                        case rel => exact ⟨m + 1, b', p2, by omega, by go_num, rfl, Lib.hid ⟨SJ.out.1, P9.out, by rw [← SJ.out.2.2, HFM.out, HTK.out]⟩, X9, C9⟩
                        case measure => simp [intOf]; omega
                    · have KNR : Hid (∀ W, Calls Tryz.prog 24 #[.agg #[.bool (decide (z < 0)), .int .u64 (lb 0 (z).natAbs), .int .u64 (lb 1 (z).natAbs), .int .u64 (lb 2 (z).natAbs), .int .u64 (lb 3 (z).natAbs)], .bool up, .bool false] W fun e w' => e = .returned (.tuple #[.agg #[.bool false, .int .u64 0, .int .u64 0, .int .u64 0, .int .u64 0], .bool false]) ∧ Below W.heap.size W w') := Lib.hid (fun W => by have := rnear_iz z HZA.out up false W; rw [ha] at this; unfold Znum at this; rw [if_neg hab] at this; exact this)
                      have HAB := Lib.hid hab
                      clear ha hab
                      go_wp2_with fail
                      ((with_reducible refine (KNR.out _).mono ?_); rintro e w8 ⟨rfl, hb⟩)
                      have hb8 := bal hb (.cells #[.bool false, .int .u64 0, .int .u64 0, .int .u64 0, .int .u64 0] 29)
                      have P8 := Lib.hid (SJ.out.2.1.keep hb8); have X8 := Lib.hid (XJ.out.keep hb8); have C8 := Lib.hid (CJ.out.keep hb8)
                      clear hb hb8 x0 x1 x2 x3 x4
                      have HTK : Hid (rtry ex true p b' m = b') := Lib.hid (rtry_no HA.out (fun h => HAB.out h.2.1))
                      go_wp2
                      go_roundw
                      case rel => exact ⟨m + 1, b', p2, by omega, by go_num, rfl, Lib.hid ⟨SJ.out.1, P8.out, by rw [← SJ.out.2.2, HFM.out, HTK.out]⟩, X8, C8⟩
                      case measure => simp [intOf]; omega
                · cases ex
                  · have HTK : Hid (rtry false ro p b' m = b') := Lib.hid (rtry_no rfl (fun h => by have := h.1; rw [want_ex HW.out] at this; cases this))
                    go_wp2
                    go_roundw
                    case rel => exact ⟨m + 1, b', p2, by omega, by go_num, rfl, Lib.hid ⟨SJ.out.1, SJ.out.2.1, by rw [← SJ.out.2.2, HFM.out, HTK.out]⟩, XJ, CJ⟩
                    case measure => simp [intOf]; omega
                  · obtain ⟨a, ha⟩ : ∃ a, nearT z up true = a := ⟨_, rfl⟩
                    have HA : Hid (nearT (fromP p) (decide (m % 2 = 0)) (decide (m < 2)) = a) := Lib.hid (by rw [HZ.out, HU.out, HW.out]; exact ha)
                    obtain ⟨x0, x1, x2, x3, x4⟩ := XJ.out.2.2.parts
                    by_cases hab : a.natAbs < 2 ^ 256
                    · have KNR : Hid (∀ W, Calls Tryz.prog 24 #[.agg #[.bool (decide (z < 0)), .int .u64 (lb 0 (z).natAbs), .int .u64 (lb 1 (z).natAbs), .int .u64 (lb 2 (z).natAbs), .int .u64 (lb 3 (z).natAbs)], .bool up, .bool true] W fun e w' => e = .returned (.tuple #[.agg #[.bool (decide (a < 0)), .int .u64 (lb 0 (a).natAbs), .int .u64 (lb 1 (a).natAbs), .int .u64 (lb 2 (a).natAbs), .int .u64 (lb 3 (a).natAbs)], .bool true]) ∧ Below W.heap.size W w') := Lib.hid (fun W => by have := rnear_iz z HZA.out up true W; rw [ha] at this; unfold Znum at this; rw [if_pos hab] at this; exact this)
                      have HAB := Lib.hid hab
                      clear ha hab
                      go_wp2_with fail
                      ((with_reducible refine (KNR.out _).mono ?_); rintro e w8 ⟨rfl, hb⟩)
                      have P8 := Lib.hid (SJ.out.2.1.keep hb); have X8 := Lib.hid (XJ.out.keep hb); have C8 := Lib.hid (CJ.out.keep hb)
                      have Y8 := Row5.new w8 (.bool (decide (a < 0))) (.int .u64 (lb 0 (a).natAbs)) (.int .u64 (lb 1 (a).natAbs)) (.int .u64 (lb 2 (a).natAbs)) (.int .u64 (lb 3 (a).natAbs))
                      have hw8 : w3.heap.size + 1 + 1 < w8.heap.size := X8.out.2.2.lt
                      clear hb x0 x1 x2 x3 x4
                      have KC1 : Hid (∀ W, Calls Tryz.prog 23 #[.agg #[.bool (decide (p.1 < 0)), .int .u64 (lb 0 (p.1).natAbs), .int .u64 (lb 1 (p.1).natAbs), .int .u64 (lb 2 (p.1).natAbs), .int .u64 (lb 3 (p.1).natAbs)], .agg #[.bool (decide (a < 0)), .int .u64 (lb 0 (a).natAbs), .int .u64 (lb 1 (a).natAbs), .int .u64 (lb 2 (a).natAbs), .int .u64 (lb 3 (a).natAbs)]] W fun e w' => e = .returned (.int .i64 (cmpv p.1 a)) ∧ Below W.heap.size W w') := Lib.hid (fun W => rcmpint_z _ _ (inR_abs.1 (by unfold inR; omega)) HAB.out W)
                      have KC2 : Hid (∀ W, Calls Tryz.prog 23 #[.agg #[.bool (decide (a < 0)), .int .u64 (lb 0 (a).natAbs), .int .u64 (lb 1 (a).natAbs), .int .u64 (lb 2 (a).natAbs), .int .u64 (lb 3 (a).natAbs)], .agg #[.bool (decide (p.2 < 0)), .int .u64 (lb 0 (p.2).natAbs), .int .u64 (lb 1 (p.2).natAbs), .int .u64 (lb 2 (p.2).natAbs), .int .u64 (lb 3 (p.2).natAbs)]] W fun e w' => e = .returned (.int .i64 (cmpv a p.2)) ∧ Below W.heap.size W w') := Lib.hid (fun W => rcmpint_z _ _ HAB.out (inR_abs.1 (by unfold inR; omega)) W)
                      obtain ⟨x0, x1, x2, x3, x4⟩ := (X8.out.1.alloc (.cells #[.bool (decide (a < 0)), .int .u64 (lb 0 (a).natAbs), .int .u64 (lb 1 (a).natAbs), .int .u64 (lb 2 (a).natAbs), .int .u64 (lb 3 (a).natAbs)] 29)).parts
                      obtain ⟨y0, y1, y2, y3, y4⟩ := Y8.parts
                      go_wp2_with fail
                      ((with_reducible refine (KC1.out _).mono ?_); rintro e w9 ⟨rfl, hb⟩)
                      have hb9 := btr (bal (Below.refl w8.heap.size w8) (.cells #[.bool (decide (a < 0)), .int .u64 (lb 0 (a).natAbs), .int .u64 (lb 1 (a).natAbs), .int .u64 (lb 2 (a).natAbs), .int .u64 (lb 3 (a).natAbs)] 29)) hb
                      have P9 := Lib.hid (P8.out.keep hb9); have X9 := Lib.hid (X8.out.keep hb9); have C9 := Lib.hid (C8.out.keep hb9)
                      have Y9 := Y8.keep hb
                      have hw9 : w8.heap.size < w9.heap.size := Y9.lt
                      clear hb hb9 x0 x1 x2 x3 x4 y0 y1 y2 y3 y4 Y8
                      by_cases h1 : p.1 ≤ a
                      · have hc1 : cmpv p.1 a ≤ 0 := by unfold cmpv; split <;> (try split) <;> omega
                        obtain ⟨y0, y1, y2, y3, y4⟩ := Y9.parts
                        obtain ⟨x0, x1, x2, x3, x4⟩ := X9.out.2.1.parts
                        go_wp2_with fail
                        ((with_reducible refine (KC2.out _).mono ?_); rintro e w10 ⟨rfl, hb⟩)
                        have P10 := Lib.hid (P9.out.keep hb); have X10 := Lib.hid (X9.out.keep hb); have C10 := Lib.hid (C9.out.keep hb)
                        have Y10 := Y9.keep hb
                        have hw10 : w9.heap.size ≤ w10.heap.size := hb.size
                        clear hb x0 x1 x2 x3 x4 y0 y1 y2 y3 y4 Y9
                        by_cases h2 : a ≤ p.2
                        · have hc2 : cmpv a p.2 ≤ 0 := by unfold cmpv; split <;> (try split) <;> omega
                          obtain ⟨q, hq⟩ : ∃ q, bestB a b' = q := ⟨_, rfl⟩
                          have HQ := Lib.hid hq
                          have KCL : Hid (∀ W, Calls Tryz.prog 25 #[.agg #[.bool (decide (a < 0)), .int .u64 (lb 0 (a).natAbs), .int .u64 (lb 1 (a).natAbs), .int .u64 (lb 2 (a).natAbs), .int .u64 (lb 3 (a).natAbs)], .agg #[.bool (decide (b'.getD 0 < 0)), .int .u64 (lb 0 (b'.getD 0).natAbs), .int .u64 (lb 1 (b'.getD 0).natAbs), .int .u64 (lb 2 (b'.getD 0).natAbs), .int .u64 (lb 3 (b'.getD 0).natAbs)], .bool p2] W fun e w' => e = .returned (.bool q) ∧ Below W.heap.size W w') := Lib.hid (fun W => by have := rclo_best a b' HAB.out P10.out.rng W; rw [hq, ← SJ.out.1] at this; exact this)
                          clear hq
                          obtain ⟨y0, y1, y2, y3, y4⟩ := Y10.parts
                          obtain ⟨d0, d1, d2, d3, d4⟩ := P10.out.best.parts
                          go_wp2_with fail
                          ((with_reducible refine (KCL.out _).mono ?_); rintro e w11 ⟨rfl, hb⟩)
                          have P11 := Lib.hid (P10.out.keep hb); have X11 := Lib.hid (X10.out.keep hb); have C11 := Lib.hid (C10.out.keep hb)
                          have Y11 := Y10.keep hb
                          clear hb y0 y1 y2 y3 y4 d0 d1 d2 d3 d4 Y10
                          cases q
                          · have HTK : Hid (rtry true ro p b' m = b') := Lib.hid (rtry_no HA.out (fun h => absurd h.2.2.2.2 (by rw [HQ.out]; decide)))
                            go_wp2
                            go_roundw
                            case rel => exact ⟨m + 1, b', p2, by omega, by go_num, rfl, Lib.hid ⟨SJ.out.1, P11.out, by rw [← SJ.out.2.2, HFM.out, HTK.out]⟩, X11, C11⟩
                            case measure => simp [intOf]; omega
                          · have HTK : Hid (rtry true ro p b' m = some a) := Lib.hid (rtry_yes HA.out (want_ex HW.out) HAB.out h1 h2 HQ.out)
                            obtain ⟨y0, y1, y2, y3, y4⟩ := Y11.parts
                            obtain ⟨d0, d1, d2, d3, d4⟩ := P11.out.best.parts
                            obtain ⟨e0, e1, e2, e3, e4⟩ := P11.out.best.free
                            go_wp2
                            go_roundw
                            case rel => exact ⟨m + 1, some a, true, by omega, by go_num, rfl, Lib.hid ⟨rfl, P11.out.put (by omega) (by omega) HAB.out, by rw [← SJ.out.2.2, HFM.out, HTK.out]⟩, Lib.hid ((((((X11.out.set (by omega) _).set (by omega) _).set (by omega) _).set (by omega) _).set (by omega) _)), Lib.hid ((((((C11.out.set HBP.out _).set HBP.out _).set HBP.out _).set HBP.out _).set HBP.out _))⟩
                            case measure => simp [intOf]; omega
                        · have hc2 : ¬ cmpv a p.2 ≤ 0 := by unfold cmpv; split <;> (try split) <;> omega
                          have HTK : Hid (rtry true ro p b' m = b') := Lib.hid (rtry_no HA.out (fun h => absurd h.2.2.2.1 h2))
                          go_wp2
                          go_roundw
                          case rel => exact ⟨m + 1, b', p2, by omega, by go_num, rfl, Lib.hid ⟨SJ.out.1, P10.out, by rw [← SJ.out.2.2, HFM.out, HTK.out]⟩, X10, C10⟩
                          case measure => simp [intOf]; omega
                      · have hc1 : ¬ cmpv p.1 a ≤ 0 := by unfold cmpv; split <;> (try split) <;> omega
                        have HTK : Hid (rtry true ro p b' m = b') := Lib.hid (rtry_no HA.out (fun h => absurd h.2.2.1 h1))
                        go_wp2
                        go_roundw
                        case rel => exact ⟨m + 1, b', p2, by omega, by go_num, rfl, Lib.hid ⟨SJ.out.1, P9.out, by rw [← SJ.out.2.2, HFM.out, HTK.out]⟩, X9, C9⟩
                        case measure => simp [intOf]; omega
                    · have KNR : Hid (∀ W, Calls Tryz.prog 24 #[.agg #[.bool (decide (z < 0)), .int .u64 (lb 0 (z).natAbs), .int .u64 (lb 1 (z).natAbs), .int .u64 (lb 2 (z).natAbs), .int .u64 (lb 3 (z).natAbs)], .bool up, .bool true] W fun e w' => e = .returned (.tuple #[.agg #[.bool false, .int .u64 0, .int .u64 0, .int .u64 0, .int .u64 0], .bool false]) ∧ Below W.heap.size W w') := Lib.hid (fun W => by have := rnear_iz z HZA.out up true W; rw [ha] at this; unfold Znum at this; rw [if_neg hab] at this; exact this)
                      have HAB := Lib.hid hab
                      clear ha hab
                      go_wp2_with fail
                      ((with_reducible refine (KNR.out _).mono ?_); rintro e w8 ⟨rfl, hb⟩)
                      have hb8 := bal hb (.cells #[.bool false, .int .u64 0, .int .u64 0, .int .u64 0, .int .u64 0] 29)
                      have P8 := Lib.hid (SJ.out.2.1.keep hb8); have X8 := Lib.hid (XJ.out.keep hb8); have C8 := Lib.hid (CJ.out.keep hb8)
                      clear hb hb8 x0 x1 x2 x3 x4
                      have HTK : Hid (rtry true ro p b' m = b') := Lib.hid (rtry_no HA.out (fun h => HAB.out h.2.1))
                      go_wp2
                      go_roundw
                      case rel => exact ⟨m + 1, b', p2, by omega, by go_num, rfl, Lib.hid ⟨SJ.out.1, P8.out, by rw [← SJ.out.2.2, HFM.out, HTK.out]⟩, X8, C8⟩
                      case measure => simp [intOf]; omega
            · have hge : ¬ (m : Int) < 4 := by omega
              have hfin : Hid (b' = [0, 1, 2, 3].foldl (rtry ex ro p) b) := Lib.hid (by have := SJ.out.2.2; rw [List.drop_eq_nil_of_le (by simp; omega)] at this; exact this)
              go_wp2
              go_roundw
              case rel => exact ⟨k + 1, b', p2, by omega, by go_num, rfl, Lib.hid ⟨SJ.out.1, SJ.out.2.1, by have h0 := HFK.out; have h1 := hfin.out; rw [← HSI.out, h0, h1]⟩, CJ⟩
              case measure => simp [intOf]; omega
    · have hge : ¬ (k : Int) < (P.length : Int) := by omega
      have hfin : Hid (b = T) := Lib.hid (by have := SI.out.2.2; rw [List.drop_eq_nil_of_le (by omega)] at this; exact this)
      obtain ⟨p0, p1, p2, p3, p4⟩ := SI.out.2.1.best.parts
      obtain ⟨f0, f1, f2, f3, f4⟩ := SI.out.2.1.res.free
      obtain ⟨q0, q1, q2, q3, q4⟩ := SI.out.2.1.res.parts
      have HP1 := Lib.hid SI.out.1
      have hres := SI.out.2.1.res.lt
      have HBW := Lib.hid SI.out.2.1.bw
      go_wp2
      exact bodyPost_ret (v := .tuple #[Iz (b.getD 0), .bool p']) (by simp [results, Tryz.results7, go_sem, q0, q1, q2, q3, q4]) rfl ⟨by rw [← hfin.out, HP1.out], bsc5 HBW.out (by omega) _ _ _ _ _⟩
end Go.Proofs.YtjlgiejggcbgbaaGreatDoor
end
section
namespace Go.Proofs.YtjlgiejggcbgbaaGreatDoor
open Go.RowKit Go.Shelf
open Go.Sort (grow)
attribute [local go_sem ↓] eql_nat neq_nat eql_int5 neq_int5

theorem in9_row {W : World} {base n : Nat} {v : Value} {B : List Sp} {xs : List Value} (h : W.ownsRow base 37 12 v n xs) (hn : n = B.length) (hx : xs = csS (B.map rsp)) (hS : ∀ s ∈ B, SpR s) (h1 : B.length ≤ 1000) : In9 W v B := by
  subst hx
  have hb : Bs W base v (B.map rsp) := by
    unfold Bs
    rw [List.length_map, ← hn]
    exact h
  obtain ⟨la, lc, bb, e, hL, h2, h3, _⟩ := hb.form
  rw [List.length_map] at e h2
  exact ⟨la, lc, bb, 0, e, hL, h2, h3, hS, h1⟩
theorem own_emptyR (W : World) (e : TypeId) (n H base : Nat) (h : W.heap.size = H) (hb : base ≤ H) : (W.alloc (.cells #[] e)).ownsRow base e n (.slice (some ⟨H, 0, none⟩) 0 0) 0 [] := own_mono9 (own_empty9 W e n H h) hb
/-- What is said of the reference's Norm. -/
def NormC : Prop := ∀ (la : Option Addr) (lca : Nat) (A : List Sp) (w : World), In9 w (.slice la A.length lca) A → A.length ≤ 30 → Calls Tryz.prog 21 #[.slice la A.length lca] w (Sets w (fun x => memS A x) A.length)
theorem joined_isN {A B : List Sp} {P Q S : List (Int × Int)} (hP : IsN P fun x => memS A x) (hQ : IsN Q fun x => memS B x) (hS : IsN S fun x => memS (P.map ofSp ++ Q.map ofSp) x) : IsN S fun x => memS A x || memS B x :=
  ⟨hS.1, fun x h1 h2 => by
    rw [hS.2 x h1 h2]
    show memS (P.map ofSp ++ Q.map ofSp) x = (memS A x || memS B x)
    rw [memS_append, memS_of, memS_of, hP.2 x h1 h2, hQ.2 x h1 h2]⟩
theorem two_cs (P Q : List (Int × Int)) : csS (P.map fun p => rsp (ofSp p)) ++ csS (Q.map fun p => rsp (ofSp p)) = csS ((P.map ofSp ++ Q.map ofSp).map rsp) := by rw [List.map_append, csS_app, List.map_map, List.map_map]; rfl
theorem two_rng {A B : List Sp} {P Q : List (Int × Int)} (hP : IsN P fun x => memS A x) (hQ : IsN Q fun x => memS B x) : ∀ s ∈ P.map ofSp ++ Q.map ofSp, SpR s := fun s hs => by
  rcases List.mem_append.1 hs with hs | hs
  · exact hP.rng s hs
  · exact hQ.rng s hs
end Go.Proofs.YtjlgiejggcbgbaaGreatDoor
end
section
namespace Go.Proofs.YtjlgiejggcbgbaaGreatDoor
open Go.RowKit Go.Shelf
attribute [local go_sem ↓] eql_nat neq_nat eql_int5 neq_int5

theorem fewP (la : Option Addr) (n lca : Nat) (lb : Option Addr) (m lcb : Nat) (w : World) : Calls Tryz.prog 4 #[.slice la n lca, .slice lb m lcb] w fun e w' => e = .returned (.bool (decide (n ≤ 12) && decide (m ≤ 12))) ∧ w = w' := by
  by_cases h1 : n ≤ 12 <;> by_cases h2 : m ≤ 12
  all_goals
    have HD1 := Lib.hid h1; have HD2 := Lib.hid h2
    have e1 : (n : Int) ≤ 12 ∨ ¬ (n : Int) ≤ 12 := by omega
    have e2 : (m : Int) ≤ 12 ∨ ¬ (m : Int) ≤ 12 := by omega
    go_enter Tryz.func4, Tryz.ntmps4
    rcases e1 with e1 | e1 <;> rcases e2 with e2 | e2 <;> first | (exfalso; have a1 := HD1.out; have a2 := HD2.out; omega) | (go_wp2; go_ret; exact ⟨ret_bool9 (by simp [HD1.out, HD2.out]), rfl⟩)
theorem in9P {w : World} {la : Option Addr} {lc : Nat} {l : List RS} {bb off : Nat} (hK : Ls w la l bb off) (h1 : l.length ≤ lc) (h2 : lc ≤ maxLen) (hx : ∀ r ∈ l, r.xl < 2 ^ 256 ∧ r.xh < 2 ^ 256) (hm : mayL l = true) : ∃ A : List Sp, l = A.map rsp ∧ In9 w (.slice la l.length lc) A := by
  unfold mayL at hm
  rw [Bool.and_eq_true] at hm
  obtain ⟨A, rfl, hR⟩ := rsp_list hx hm.2
  have h0 := of_decide_eq_true hm.1
  rw [List.length_map] at *
  exact ⟨A, rfl, la, lc, bb, off, rfl, hK, h1, h2, hR, h0⟩
theorem rnormP (a : Value) (w : World) (k1 : ∀ W, Below w.heap.size w W → Calls Tryz.prog 44 #[a] W fun e w' => e = .returned (.bool false) ∧ Below W.heap.size W w') : Calls Tryz.prog 21 #[a] w fun e w' => e = .returned (.slice none 0 0) ∧ Below w.heap.size w w' := by
  have K1 := Lib.hid k1; clear k1
  go_enter Tryz.func21, Tryz.ntmps21
  go_wp2_with fail
  ((with_reducible refine (K1.out _ (Below.refl _ _)).mono ?_); rintro e w1 ⟨rfl, hb⟩)
  go_wp2
  go_ret
  exact ⟨rfl, hb⟩
set_option maxRecDepth 100000 in
theorem pick_no (ex ro : Bool) (a : Value) (w : World) (k1 : ∀ W, Below w.heap.size w W → Calls Tryz.prog 16 #[a] W fun e w' => e = .returned (.bool false) ∧ Below W.heap.size W w') : Calls Tryz.prog 6 #[a, .bool ex, .bool ro] w fun e w' => e = .returned (.tuple #[Iz 0, .bool false]) ∧ Below w.heap.size w w' := by
  have K1 := Lib.hid k1; clear k1
  go_enter Tryz.func6, Tryz.ntmps6
  go_wp2_with fail
  ((with_reducible refine (K1.out _ (bal (Below.refl w.heap.size w) _)).mono ?_); rintro e w1 ⟨rfl, hb⟩)
  have R1 := Row5.keep hb (Row5.new w (.bool false) (.int .u64 0) (.int .u64 0) (.int .u64 0) (.int .u64 0))
  have B1 := Lib.hid (btr (bal (Below.refl w.heap.size w) _) hb)
  have hlt := R1.lt
  obtain ⟨q0, q1, q2, q3, q4⟩ := R1.parts
  obtain ⟨f0, f1, f2, f3, f4⟩ := R1.free
  clear hb
  go_wp2
  exact bodyPost_ret (v := .tuple #[Iz 0, .bool false]) (by rw [Iz_zero9]; simp [results, Tryz.results6, go_sem, q0, q1, q2, q3, q4]) rfl ⟨rfl, by first | exact B1.out | exact bsc5 B1.out (Nat.le_refl _) _ _ _ _ _⟩
set_option maxRecDepth 100000 in
set_option maxHeartbeats 4000000 in
theorem picks_none (la : Option Addr) (n lca : Nat) (ex ro : Bool) (w : World) (hT : Tb w) (h1 : n ≤ 12)
    (kP : ∀ W, Below w.heap.size w W → Calls Tryz.prog 6 #[.slice la n lca, .bool ex, .bool ro] W fun e w' => e = .returned (.tuple #[Iz 0, .bool false]) ∧ Below W.heap.size W w')
    (kR : ∀ W, Below w.heap.size w W → Calls Tryz.prog 7 #[.slice la n lca, .bool ex, .bool ro] W fun e w' => e = .returned (.tuple #[Iz 0, .bool false]) ∧ Below W.heap.size W w') :
    Calls Tryz.prog 3 #[.slice la n lca, .bool ex, .bool ro] w fun e w' => e = .returned (.bool true) ∧ Below w.heap.size w w' := by
  have hfew : Calls Tryz.prog 4 #[.slice la n lca, .slice none 0 0] w fun e w' => e = .returned (.bool true) ∧ w = w' := by have := fewP la n lca none 0 0 w; rw [decide_eq_true h1] at this; exact this
  have HFW := Lib.hid hfew; have HT := Lib.hid hT
  clear hfew hT h1
  rw [Iz_zero9] at kP kR
  have KP := Lib.hid kP; have KR := Lib.hid kR
  have q1 : eq5 false 0 0 0 0 false 0 0 0 0 = true := rfl
  clear kP kR
  go_enter Tryz.func3, Tryz.ntmps3
  go_wp2_with fail
  ((with_reducible refine HFW.out.mono ?_); rintro e w1 ⟨rfl, rfl⟩)
  go_wp2_with fail
  ((with_reducible refine (KP.out _ (Below.refl _ _)).mono ?_); rintro e w2 ⟨rfl, hb⟩)
  have D2 := Lib.hid (bal hb (.cells #[.bool false, .int .u64 0, .int .u64 0, .int .u64 0, .int .u64 0] 29))
  have N2 := Row5.new w2 (.bool false) (.int .u64 0) (.int .u64 0) (.int .u64 0) (.int .u64 0)
  clear hb
  go_wp2_with fail
  ((with_reducible refine (KR.out _ D2.out).mono ?_); rintro e w3 ⟨rfl, hb⟩)
  have D3 := Lib.hid (bal (btr D2.out hb) (.cells #[.bool false, .int .u64 0, .int .u64 0, .int .u64 0, .int .u64 0] 29))
  have N3 := Row5.alloc (N2.keep hb) (.cells #[.bool false, .int .u64 0, .int .u64 0, .int .u64 0, .int .u64 0] 29)
  have M3 := Row5.new w3 (.bool false) (.int .u64 0) (.int .u64 0) (.int .u64 0) (.int .u64 0)
  clear hb N2
  go_wp2_with fail
  ((with_reducible refine (told9_true _ (tb_on HT.out D3.out)).mono ?_); rintro e w4 ⟨rfl, hb⟩)
  have D4 := Lib.hid (btr D3.out hb)
  have N4 := N3.keep hb; have M4 := M3.keep hb
  clear hb N3 M3
  obtain ⟨n0, n1, n2, n3, n4⟩ := N4.parts
  obtain ⟨m0, m1, m2, m3, m4⟩ := M4.parts
  go_wp2
  go_ret
  exact ⟨rfl, D4.out⟩

set_option maxRecDepth 100000 in
set_option maxHeartbeats 4000000 in
theorem picks_exact (la : Option Addr) (n lca : Nat) (ro : Bool) (z : Int) (hz : z.natAbs < 2 ^ 256) (w : World) (hT : Tb w) (h1 : n ≤ 12)
    (kP : ∀ W, Below w.heap.size w W → Calls Tryz.prog 6 #[.slice la n lca, .bool true, .bool ro] W fun e w' => e = .returned (.tuple #[Iz z, .bool true]) ∧ Below W.heap.size W w')
    (kR : ∀ W, Below w.heap.size w W → Calls Tryz.prog 7 #[.slice la n lca, .bool true, .bool ro] W fun e w' => e = .returned (.tuple #[Iz z, .bool true]) ∧ Below W.heap.size W w')
    (kH : ∀ W, Below w.heap.size w W → Calls Tryz.prog 8 #[.slice la n lca, Iz z] W fun e w' => e = .returned (.bool true) ∧ Below W.heap.size W w')
    (kE : ∀ W, Below w.heap.size w W → Calls Tryz.prog 9 #[Iz z] W fun e w' => e = .returned (.bool true) ∧ Below W.heap.size W w') :
    Calls Tryz.prog 3 #[.slice la n lca, .bool true, .bool ro] w fun e w' => e = .returned (.bool true) ∧ Below w.heap.size w w' := by
  have hfew : Calls Tryz.prog 4 #[.slice la n lca, .slice none 0 0] w fun e w' => e = .returned (.bool true) ∧ w = w' := by have := fewP la n lca none 0 0 w; rw [decide_eq_true h1] at this; exact this
  have HFW := Lib.hid hfew; have HT := Lib.hid hT
  clear hfew hT h1
  have KP : Hid (∀ W, Below w.heap.size w W → Calls Tryz.prog 6 #[.slice la n lca, .bool true, .bool ro] W fun e w' => e = .returned (.tuple #[.agg #[.bool (decide (z < 0)), .int .u64 (lb 0 (z).natAbs), .int .u64 (lb 1 (z).natAbs), .int .u64 (lb 2 (z).natAbs), .int .u64 (lb 3 (z).natAbs)], .bool true]) ∧ Below W.heap.size W w') := Lib.hid kP
  have KR : Hid (∀ W, Below w.heap.size w W → Calls Tryz.prog 7 #[.slice la n lca, .bool true, .bool ro] W fun e w' => e = .returned (.tuple #[.agg #[.bool (decide (z < 0)), .int .u64 (lb 0 (z).natAbs), .int .u64 (lb 1 (z).natAbs), .int .u64 (lb 2 (z).natAbs), .int .u64 (lb 3 (z).natAbs)], .bool true]) ∧ Below W.heap.size W w') := Lib.hid kR
  have KH : Hid (∀ W, Below w.heap.size w W → Calls Tryz.prog 8 #[.slice la n lca, .agg #[.bool (decide (z < 0)), .int .u64 (lb 0 (z).natAbs), .int .u64 (lb 1 (z).natAbs), .int .u64 (lb 2 (z).natAbs), .int .u64 (lb 3 (z).natAbs)]] W fun e w' => e = .returned (.bool true) ∧ Below W.heap.size W w') := Lib.hid kH
  have KE : Hid (∀ W, Below w.heap.size w W → Calls Tryz.prog 9 #[.agg #[.bool (decide (z < 0)), .int .u64 (lb 0 (z).natAbs), .int .u64 (lb 1 (z).natAbs), .int .u64 (lb 2 (z).natAbs), .int .u64 (lb 3 (z).natAbs)]] W fun e w' => e = .returned (.bool true) ∧ Below W.heap.size W w') := Lib.hid kE
  have q1 := eq5_own (decide (z < 0)) z.natAbs hz
  clear kP kR kH kE hz
  go_enter Tryz.func3, Tryz.ntmps3
  go_wp2_with fail
  ((with_reducible refine HFW.out.mono ?_); rintro e w1 ⟨rfl, rfl⟩)
  go_wp2_with fail
  ((with_reducible refine (KP.out _ (Below.refl _ _)).mono ?_); rintro e w2 ⟨rfl, hb⟩)
  have D2 := Lib.hid (bal hb (.cells #[.bool (decide (z < 0)), .int .u64 (lb 0 (z).natAbs), .int .u64 (lb 1 (z).natAbs), .int .u64 (lb 2 (z).natAbs), .int .u64 (lb 3 (z).natAbs)] 29))
  have N2 := Row5.new w2 (.bool (decide (z < 0))) (.int .u64 (lb 0 (z).natAbs)) (.int .u64 (lb 1 (z).natAbs)) (.int .u64 (lb 2 (z).natAbs)) (.int .u64 (lb 3 (z).natAbs))
  clear hb
  go_wp2_with fail
  ((with_reducible refine (KR.out _ D2.out).mono ?_); rintro e w3 ⟨rfl, hb⟩)
  have D3 := Lib.hid (bal (btr D2.out hb) (.cells #[.bool (decide (z < 0)), .int .u64 (lb 0 (z).natAbs), .int .u64 (lb 1 (z).natAbs), .int .u64 (lb 2 (z).natAbs), .int .u64 (lb 3 (z).natAbs)] 29))
  have N3 := Row5.alloc (N2.keep hb) (.cells #[.bool (decide (z < 0)), .int .u64 (lb 0 (z).natAbs), .int .u64 (lb 1 (z).natAbs), .int .u64 (lb 2 (z).natAbs), .int .u64 (lb 3 (z).natAbs)] 29)
  have M3 := Row5.new w3 (.bool (decide (z < 0))) (.int .u64 (lb 0 (z).natAbs)) (.int .u64 (lb 1 (z).natAbs)) (.int .u64 (lb 2 (z).natAbs)) (.int .u64 (lb 3 (z).natAbs))
  clear hb N2
  go_wp2_with fail
  ((with_reducible refine (told9_true _ (tb_on HT.out D3.out)).mono ?_); rintro e w4 ⟨rfl, hb⟩)
  have D4 := Lib.hid (btr D3.out hb)
  have N4 := N3.keep hb; have M4 := M3.keep hb
  clear hb N3 M3
  obtain ⟨n0, n1, n2, n3, n4⟩ := N4.parts
  obtain ⟨m0, m1, m2, m3, m4⟩ := M4.parts
  go_wp2_with fail
  ((with_reducible refine (KH.out _ D4.out).mono ?_); rintro e w5 ⟨rfl, hb⟩)
  have D5 := Lib.hid (btr D4.out hb)
  have N5 := N4.keep hb
  clear hb n0 n1 n2 n3 n4 m0 m1 m2 m3 m4 N4 M4
  obtain ⟨n0, n1, n2, n3, n4⟩ := N5.parts
  go_wp2_with fail
  ((with_reducible refine (KE.out _ D5.out).mono ?_); rintro e w6 ⟨rfl, hb⟩)
  have D6 := Lib.hid (btr D5.out hb)
  clear hb
  go_wp2
  go_ret
  exact ⟨rfl, D6.out⟩

set_option maxRecDepth 100000 in
set_option maxHeartbeats 4000000 in
theorem picks_rough (la : Option Addr) (n lca : Nat) (ex : Bool) (z : Int) (hz : z.natAbs < 2 ^ 256) (w : World) (hT : Tb w) (h1 : n ≤ 12)
    (kP : ∀ W, Below w.heap.size w W → Calls Tryz.prog 6 #[.slice la n lca, .bool ex, .bool true] W fun e w' => e = .returned (.tuple #[Iz z, .bool true]) ∧ Below W.heap.size W w')
    (kR : ∀ W, Below w.heap.size w W → Calls Tryz.prog 7 #[.slice la n lca, .bool ex, .bool true] W fun e w' => e = .returned (.tuple #[Iz z, .bool true]) ∧ Below W.heap.size W w')
    (kH : ∀ W, Below w.heap.size w W → Calls Tryz.prog 8 #[.slice la n lca, Iz z] W fun e w' => e = .returned (.bool true) ∧ Below W.heap.size W w')
    (kE : ∀ W, Below w.heap.size w W → Calls Tryz.prog 9 #[Iz z] W fun e w' => e = .returned (.bool false) ∧ Below W.heap.size W w') :
    Calls Tryz.prog 3 #[.slice la n lca, .bool ex, .bool true] w fun e w' => e = .returned (.bool true) ∧ Below w.heap.size w w' := by
  have hfew : Calls Tryz.prog 4 #[.slice la n lca, .slice none 0 0] w fun e w' => e = .returned (.bool true) ∧ w = w' := by have := fewP la n lca none 0 0 w; rw [decide_eq_true h1] at this; exact this
  have HFW := Lib.hid hfew; have HT := Lib.hid hT
  clear hfew hT h1
  have KP : Hid (∀ W, Below w.heap.size w W → Calls Tryz.prog 6 #[.slice la n lca, .bool ex, .bool true] W fun e w' => e = .returned (.tuple #[.agg #[.bool (decide (z < 0)), .int .u64 (lb 0 (z).natAbs), .int .u64 (lb 1 (z).natAbs), .int .u64 (lb 2 (z).natAbs), .int .u64 (lb 3 (z).natAbs)], .bool true]) ∧ Below W.heap.size W w') := Lib.hid kP
  have KR : Hid (∀ W, Below w.heap.size w W → Calls Tryz.prog 7 #[.slice la n lca, .bool ex, .bool true] W fun e w' => e = .returned (.tuple #[.agg #[.bool (decide (z < 0)), .int .u64 (lb 0 (z).natAbs), .int .u64 (lb 1 (z).natAbs), .int .u64 (lb 2 (z).natAbs), .int .u64 (lb 3 (z).natAbs)], .bool true]) ∧ Below W.heap.size W w') := Lib.hid kR
  have KH : Hid (∀ W, Below w.heap.size w W → Calls Tryz.prog 8 #[.slice la n lca, .agg #[.bool (decide (z < 0)), .int .u64 (lb 0 (z).natAbs), .int .u64 (lb 1 (z).natAbs), .int .u64 (lb 2 (z).natAbs), .int .u64 (lb 3 (z).natAbs)]] W fun e w' => e = .returned (.bool true) ∧ Below W.heap.size W w') := Lib.hid kH
  have KE : Hid (∀ W, Below w.heap.size w W → Calls Tryz.prog 9 #[.agg #[.bool (decide (z < 0)), .int .u64 (lb 0 (z).natAbs), .int .u64 (lb 1 (z).natAbs), .int .u64 (lb 2 (z).natAbs), .int .u64 (lb 3 (z).natAbs)]] W fun e w' => e = .returned (.bool false) ∧ Below W.heap.size W w') := Lib.hid kE
  have q1 := eq5_own (decide (z < 0)) z.natAbs hz
  clear kP kR kH kE hz
  go_enter Tryz.func3, Tryz.ntmps3
  go_wp2_with fail
  ((with_reducible refine HFW.out.mono ?_); rintro e w1 ⟨rfl, rfl⟩)
  go_wp2_with fail
  ((with_reducible refine (KP.out _ (Below.refl _ _)).mono ?_); rintro e w2 ⟨rfl, hb⟩)
  have D2 := Lib.hid (bal hb (.cells #[.bool (decide (z < 0)), .int .u64 (lb 0 (z).natAbs), .int .u64 (lb 1 (z).natAbs), .int .u64 (lb 2 (z).natAbs), .int .u64 (lb 3 (z).natAbs)] 29))
  have N2 := Row5.new w2 (.bool (decide (z < 0))) (.int .u64 (lb 0 (z).natAbs)) (.int .u64 (lb 1 (z).natAbs)) (.int .u64 (lb 2 (z).natAbs)) (.int .u64 (lb 3 (z).natAbs))
  clear hb
  go_wp2_with fail
  ((with_reducible refine (KR.out _ D2.out).mono ?_); rintro e w3 ⟨rfl, hb⟩)
  have D3 := Lib.hid (bal (btr D2.out hb) (.cells #[.bool (decide (z < 0)), .int .u64 (lb 0 (z).natAbs), .int .u64 (lb 1 (z).natAbs), .int .u64 (lb 2 (z).natAbs), .int .u64 (lb 3 (z).natAbs)] 29))
  have N3 := Row5.alloc (N2.keep hb) (.cells #[.bool (decide (z < 0)), .int .u64 (lb 0 (z).natAbs), .int .u64 (lb 1 (z).natAbs), .int .u64 (lb 2 (z).natAbs), .int .u64 (lb 3 (z).natAbs)] 29)
  have M3 := Row5.new w3 (.bool (decide (z < 0))) (.int .u64 (lb 0 (z).natAbs)) (.int .u64 (lb 1 (z).natAbs)) (.int .u64 (lb 2 (z).natAbs)) (.int .u64 (lb 3 (z).natAbs))
  clear hb N2
  go_wp2_with fail
  ((with_reducible refine (told9_true _ (tb_on HT.out D3.out)).mono ?_); rintro e w4 ⟨rfl, hb⟩)
  have D4 := Lib.hid (btr D3.out hb)
  have N4 := N3.keep hb; have M4 := M3.keep hb
  clear hb N3 M3
  obtain ⟨n0, n1, n2, n3, n4⟩ := N4.parts
  obtain ⟨m0, m1, m2, m3, m4⟩ := M4.parts
  go_wp2_with fail
  ((with_reducible refine (KH.out _ D4.out).mono ?_); rintro e w5 ⟨rfl, hb⟩)
  have D5 := Lib.hid (btr D4.out hb)
  have N5 := N4.keep hb
  clear hb n0 n1 n2 n3 n4 m0 m1 m2 m3 m4 N4 M4
  obtain ⟨n0, n1, n2, n3, n4⟩ := N5.parts
  go_wp2_with fail
  ((with_reducible refine (KE.out _ D5.out).mono ?_); rintro e w6 ⟨rfl, hb⟩)
  have D6 := Lib.hid (btr D5.out hb)
  have N6 := N5.keep hb
  clear hb n0 n1 n2 n3 n4 N5
  obtain ⟨n0, n1, n2, n3, n4⟩ := N6.parts
  go_wp2_with fail
  ((with_reducible refine (KE.out _ D6.out).mono ?_); rintro e w7 ⟨rfl, hb⟩)
  have D7 := Lib.hid (btr D6.out hb)
  clear hb
  go_wp2
  go_ret
  exact ⟨rfl, D7.out⟩

set_option maxRecDepth 100000 in
theorem picks_far (la : Option Addr) (n lca : Nat) (ex ro : Bool) (w : World) (hT : Tb w) (h1 : ¬ n ≤ 12) :
    Calls Tryz.prog 3 #[.slice la n lca, .bool ex, .bool ro] w fun e w' => e = .returned (.bool true) ∧ Below w.heap.size w w' := by
  have hfew : Calls Tryz.prog 4 #[.slice la n lca, .slice none 0 0] w fun e w' => e = .returned (.bool false) ∧ w = w' := by have := fewP la n lca none 0 0 w; rw [decide_eq_false h1] at this; exact this
  have HFW := Lib.hid hfew; have HT := Lib.hid hT
  clear hfew hT h1
  go_enter Tryz.func3, Tryz.ntmps3
  go_wp2_with fail
  ((with_reducible refine HFW.out.mono ?_); rintro e w1 ⟨rfl, rfl⟩)
  go_wp2_with fail
  ((with_reducible refine (told9_true _ HT.out).mono ?_); rintro e w2 ⟨rfl, hb⟩)
  go_wp2
  go_ret
  exact ⟨rfl, hb⟩
theorem normA_of {w : World} {a : Value} {A : List Sp} {T : Option Int} {ex ro : Bool} {k : Nat} (hk : k ≤ 1000) (hA : ∀ s ∈ A, SpR s) (hT : T = pickT A ex ro) (h : ∀ W, Below w.heap.size w W → Calls Tryz.prog 21 #[a] W (Sets W (fun x => memS A x) k)) : NormA a T ex ro w := by
  intro W hW
  refine (h W hW).mono ?_
  rintro e w' ⟨v, rfl, P, hP, hN, hl, hb⟩
  obtain ⟨lp, cp, bp, h1, h2, h3, h4, h5⟩ := hP.form
  rw [List.length_map] at h1
  refine ⟨lp, cp, bp, P, by rw [h1], fun h0 => ?_, fun i p hp => ?_, sep_rng (Int.le_refl _) hN.1, Nat.le_trans hl hk, by rw [hT]; exact picks_same hA hN ex ro, hb⟩
  · rcases h5 with ⟨h6, _⟩ | ⟨h6, h7, _⟩
    · have := congrArg List.length h6
      rw [List.length_map, List.length_nil] at this
      omega
    · exact ⟨h6, h7⟩
  · have := h2.cells i (rsp (ofSp p)) (by rw [List.getElem?_map, hp]; rfl)
    rw [Nat.zero_add] at this
    exact this
theorem normA_no {w : World} {a : Value} {ex ro : Bool} (h : ∀ W, Below w.heap.size w W → Calls Tryz.prog 21 #[a] W fun e w' => e = .returned (.slice none 0 0) ∧ Below W.heap.size W w') : NormA a none ex ro w := by
  intro W hW
  refine (h W hW).mono ?_
  rintro e w' ⟨rfl, hb⟩
  exact ⟨none, 0, 0, [], rfl, fun h0 => absurd h0 (by simp), (fun i p hp => by simp at hp), (fun p hp => by cases hp), by simp, rfl, hb⟩
theorem NormA.on {w w' : World} {a : Value} {T : Option Int} {ex ro : Bool} (h : NormA a T ex ro w) (hb : Below w.heap.size w w') : NormA a T ex ro w' := fun W hW => h W (btr hb hW)
/-- entrepotlaw9.SpanPicks, out of Norm's contract. -/
theorem picks_any (hN : NormC) (la : Option Addr) (lca : Nat) (l : List RS) (bb off : Nat) (ex ro : Bool) (w : World) (hT : Tb w) (hK : Ls w la l bb off) (hxl : ∀ r ∈ l, r.xl < 2 ^ 256 ∧ r.xh < 2 ^ 256) (c1 : l.length ≤ lca ∧ lca ≤ maxLen) :
    Calls Tryz.prog 3 #[.slice la l.length lca, .bool ex, .bool ro] w fun e w' => e = .returned (.bool true) ∧ Below w.heap.size w w' := by
  by_cases h12 : l.length ≤ 12
  · have s1 := fun W hW => smay la lca l bb off W (hK.keep hW) hxl
    have f1 := fun W hW => rlmay la lca l bb off W (hK.keep hW) hxl
    cases e1 : mayL l with
    | false =>
      rw [e1] at s1 f1
      exact picks_none la _ lca ex ro w hT h12 (fun W hW => pick_no ex ro _ W (fun V hV => s1 V (btr hW hV)))
        (fun W hW => rpick_core ex ro _ none W (normA_no (fun V hV => rnormP _ V (fun U hU => f1 U (btr (btr hW hV) hU)))))
    | true =>
      obtain ⟨A, rfl, hA⟩ := in9P hK c1.1 c1.2 hxl e1
      have hS : ∀ s ∈ A, SpR s := by obtain ⟨_, _, _, _, _, _, _, _, h5, _⟩ := hA; exact h5
      rw [List.length_map] at h12 hA ⊢
      have hL := pick_least hS ex ro
      have kR : ∀ W, Below w.heap.size w W → Calls Tryz.prog 7 #[.slice la A.length lca, .bool ex, .bool ro] W fun e w' => e = .returned (.tuple #[Iz ((pickT A ex ro).getD 0), .bool (pickT A ex ro).isSome]) ∧ Below W.heap.size W w' :=
        fun W hW => rpick_core ex ro _ _ W (normA_of (k := A.length) (by omega) hS rfl (fun V hV => hN la lca A V (hA.keep (btr hW hV)) (by omega)))
      have kP : ∀ W, Below w.heap.size w W → Calls Tryz.prog 6 #[.slice la A.length lca, .bool ex, .bool ro] W fun e w' => e = .returned (.tuple #[Iz ((pickT A ex ro).getD 0), .bool (pickT A ex ro).isSome]) ∧ Below W.heap.size W w' :=
        fun W hW => pick_in ex ro (hA.keep hW) (tb_on hT hW)
      cases eT : pickT A ex ro with
      | none =>
        rw [eT] at kR kP
        exact picks_none la _ lca ex ro w hT h12 kP kR
      | some z =>
        rw [eT] at kR kP
        obtain ⟨hz, hm, hk⟩ := hL.1 z eT
        have kH : ∀ W, Below w.heap.size w W → Calls Tryz.prog 8 #[.slice la A.length lca, Iz z] W fun e w' => e = .returned (.bool true) ∧ Below W.heap.size W w' := fun W hW => by
          have := has_is (w := W) (a := .slice la A.length lca) (f := fun x => memS A x) (k := A.length) ⟨A, hA.keep hW, Nat.le_refl _, fun _ _ _ => rfl⟩ z (inR_abs.2 hz)
          rw [hm] at this
          exact this
        have kE : ∀ W, Below w.heap.size w W → Calls Tryz.prog 9 #[Iz z] W fun e w' => e = .returned (.bool (exq z.natAbs)) ∧ Below W.heap.size W w' := fun W hW => rexq (decide (z < 0)) z.natAbs hz (by rintro ⟨h1, h2⟩; have := of_decide_eq_true h1; omega) W
        unfold kindP at hk
        cases eq : exq z.natAbs with
        | true =>
          rw [eq, if_pos rfl] at hk
          subst hk
          rw [eq] at kE
          exact picks_exact la _ lca ro z hz w hT h12 kP kR kH kE
        | false =>
          rw [eq] at hk
          obtain rfl : ro = true := hk
          rw [eq] at kE
          exact picks_rough la _ lca ex z hz w hT h12 kP kR kH kE
  · exact picks_far la _ lca ex ro w hT h12
end Go.Proofs.YtjlgiejggcbgbaaGreatDoor
end
section
namespace Go.Proofs.YtjlgiejggcbgbaaGreatDoor
open Go.RowKit Go.Shelf

theorem normCP : NormC := fun la lca A w hA h => norm_one la lca A w hA h
end Go.Proofs.YtjlgiejggcbgbaaGreatDoor
end
