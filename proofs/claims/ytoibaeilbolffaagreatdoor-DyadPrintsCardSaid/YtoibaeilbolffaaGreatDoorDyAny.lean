/-
  dyad.Parse: what it answers, for every text.
-/
import Derived.Test.YtoibaeilbolffaaGreatDoorGH
import Derived.Test.YtoibaeilbolffaaGreatDoorFWAny
namespace Go.Proofs.YtoibaeilbolffaaGreatDoor
open Go.RowKit Go.Shelf

def ER (k : Int) : Value := .tuple #[VZ, .int .i64 k]
/-- The word of a whole number by a power of two. -/
def wby (g : Bool) (q : Nat) (p : Int) : Nat := g.toNat * 9223372036854775808 + nr (q / 2 ^ tz q) ((tz q : Nat) + p)
/-- What plain answers of a number. -/
def plv (g : Bool) (n : Nat) (p : Int) : Option Nat :=
  if 5 ^ (-p).toNat ∣ n ∧ exq (n / 5 ^ (-p).toNat) = true ∧ cls (wby g (n / 5 ^ (-p).toNat) p) = 1 then some (wby g (n / 5 ^ (-p).toNat) p) else none
/-- The word that plain answers with it. -/
def plw (g : Bool) (n : Nat) (p : Int) : Nat := if 5 ^ (-p).toNat ∣ n ∧ exq (n / 5 ^ (-p).toNat) = true then wby g (n / 5 ^ (-p).toNat) p else 0
theorem plw_of {g : Bool} {n : Nat} {p : Int} {z : Nat} (h : plv g n p = some z) : plw g n p = z := by
  unfold plv at h
  unfold plw
  split at h
  · rename_i hc
    rw [if_pos ⟨hc.1, hc.2.1⟩]
    injection h
  · cases h
theorem five_small {n k : Nat} (hn : n < 2 ^ 256) (h0 : n ≠ 0) (h : 5 ^ k ∣ n) : k < 256 := by
  have h1 : 5 ^ k ≤ n := Nat.le_of_dvd (by omega) h
  have h2 : 2 ^ k ≤ 5 ^ k := Nat.pow_le_pow_left (by decide) k
  exact (Nat.pow_lt_pow_iff_right (a := 2) (by decide)).1 (Nat.lt_of_le_of_lt (Nat.le_trans h2 h1) hn)
theorem plain_any (g : Bool) (D : ByteArray) (p : Int) (n : Nat) (hn : n < 2 ^ 256) (h0 : n ≠ 0) (hp : p < 0) (hpl : -20000 ≤ p) (w : World) (hT : Tb w)
    (k1 : ∀ W, Calls Tryz.prog 43 #[.string D] W fun e w' => e = .returned (.tuple #[N4 n, .bool true]) ∧ Below W.heap.size W w') :
    Calls Tryz.prog 16 #[DV g D p] w fun e w' => e = .returned (.tuple #[.int .u64 (plw g n p : Nat), .bool (plv g n p).isSome]) ∧ Below w.heap.size w w' := by
  obtain ⟨k, hk⟩ : ∃ k : Nat, -p = (k : Int) := ⟨(-p).toNat, by omega⟩
  have hk2 : (-p).toNat = k := by omega
  unfold plv plw
  rw [hk2]
  have k2 := fun W => fives_any n k hn (by omega) W
  unfold wfv at k2
  rw [← hk] at k2
  have none_of : ∀ {c : Prop} [Decidable c] {b : Nat}, ¬ c → (if c then some b else none : Option Nat) = none := fun h => if_neg h
  by_cases h5 : 5 ^ k ∣ n
  · rw [if_pos h5] at k2
    have hks := five_small hn h0 h5
    have hq : n / 5 ^ k < 2 ^ 256 := Nat.lt_of_le_of_lt (Nat.div_le_self _ _) hn
    have hq0 : n / 5 ^ k ≠ 0 := by
      have h1 : 5 ^ k ≤ n := Nat.le_of_dvd (by omega) h5
      have := Nat.div_pos h1 (Nat.pow_pos (by decide))
      omega
    generalize n / 5 ^ k = q at *
    obtain ⟨z, hz, hg, ha⟩ : ∃ z : Int, decide (z < 0) = g ∧ z.natAbs = q ∧ True := by
      cases g
      · exact ⟨(q : Int), by rw [decide_eq_false (by omega)], by omega, trivial⟩
      · exact ⟨-(q : Int), by rw [decide_eq_true (by omega)], by omega, trivial⟩
    have eI : Iz z = I5 g q := by show I5 (decide (z < 0)) z.natAbs = _; rw [hz, hg]
    cases hx : exq q with
    | false =>
      rw [none_of (by rintro ⟨_, h, _⟩; cases h), if_neg (by rintro ⟨_, h⟩; cases h)]
      refine (plain_of g D p n q 0 hp hpl w k1 k2 (fun W hW => ofwhole_no g q W (tb_on hT hW) (fun W2 hT2 => ?_))).mono ?_
      · have := exact_z z (by rw [hg]; exact hq) W2 hT2
        rw [eI, hg, hx] at this
        exact this
      · rintro e w' ⟨he, hb⟩
        exact ⟨he, hb⟩
    | true =>
      obtain ⟨d, m, t, hd, e, et, hl, ht, _, hdiv⟩ := exq_parts hq hq0 hx
      have hd0 : d ≠ 0 := by omega
      have hw : wwd g q = g.toNat * 9223372036854775808 + nr d (t : Int) := by
        unfold wwd
        rw [if_neg hq0, ← et, hdiv]
      have hwb : wby g q p = g.toNat * 9223372036854775808 + nr d ((t : Int) + p) := by
        unfold wby
        rw [← et, hdiv]
      have hnr := (nr_spec (d := d) (p := (t : Int) + p) hd0 hl (by omega) (by omega)).1
      have hI : INF = 9218868437227405312 := rfl
      have hb64 : wby g q p < 18446744073709551616 := by rw [hwb]; cases g <;> simp only [Bool.toNat_true, Bool.toNat_false] <;> omega
      have h := plain_yes g D p n q ((wwd g q : Nat) : Int) ((wby g q p : Nat) : Int) ((cls (wby g q p) : Nat) : Int) hp hpl w k1 k2
        (fun W hW => by
          have := ofw_z z (by rw [hg]; exact hq) (by rw [hg]; exact hx) W (tb_on hT hW)
          rw [eI, hz, hg] at this
          exact this)
        (fun W => by
          have := same_below (dscaled_any g (d := d) (t := (t : Int)) (p := p) hd0 hl (by omega) (by omega) (by omega) (by omega) (by omega) (by omega) W)
          rw [← hw, ← hwb] at this
          exact this)
        (fun W hW => class_any _ hb64 W (tb_on hT hW))
      refine h.mono ?_
      rintro e w' ⟨he, hb⟩
      refine ⟨?_, hb⟩
      rw [he, if_pos (show 5 ^ k ∣ n ∧ true = true from ⟨h5, rfl⟩)]
      by_cases hc : cls (wby g q p) = 1
      · rw [if_pos ⟨h5, rfl, hc⟩, hc]; rfl
      · rw [if_neg (fun h => hc h.2.2)]
        have : (((cls (wby g q p) : Nat) : Int) == 1) = false := by rw [beq_eq_false_iff_ne]; omega
        rw [this]; rfl
  · rw [if_neg h5] at k2
    rw [none_of (fun h => h5 h.1), if_neg (fun h => h5 h.1)]
    refine (plain_five g D p n 0 hp hpl w k1 k2).mono ?_
    rintro e w' ⟨he, hb⟩
    exact ⟨he, hb⟩
/-- What Parse answers of a number that is not 0. -/
def dpv (g : Bool) (n : Nat) (p : Int) : Value :=
  if 0 ≤ p then (if n * 10 ^ p.toNat < 2 ^ 256 then .tuple #[VV 3 g (n * 10 ^ p.toNat) 0, .int .i64 0] else ER 5)
  else match plv g n p with
    | some y => .tuple #[VV 4 false 0 (y : Nat), .int .i64 0]
    | none => ER 5
/-- What Parse answers. -/
def dpans (l : List UInt8) : Value :=
  if 400 < l.length then ER 8 else
  match rd l with
  | none => ER 3
  | some (g, ds, p) =>
    if ds = [] then .tuple #[VV 3 false 0 0, .int .i64 0]
    else match parseN (str ds) with
      | none => ER 5
      | some n => dpv g n p
theorem z5_i5 : Z5 = I5 false 0 := by show Z5 = .agg #[_, _, _, _, _]; simp only [lb_zero]
theorem tl0_head {l : List UInt8} {c : UInt8} {t : List UInt8} (h : tl0 l = c :: t) : c ≠ 48 := by
  unfold tl0 at h
  induction l with
  | nil => cases h
  | cons d u ih =>
    rw [List.dropWhile_cons] at h
    split at h
    · exact ih h
    · rename_i hd
      cases h
      intro hc
      exact hd (by rw [hc]; rfl)
theorem parseN_pos {c : UInt8} {t : List UInt8} {n : Nat} (hc : c ≠ 48) (h : parseN (str (c :: t)) = some n) : n ≠ 0 := by
  unfold parseN at h
  split at h
  · cases h
  · rw [str_data, dfold_dgs _ 0 (by decide)] at h
    cases hd : dgs (c :: t) 0 with
    | none => rw [hd] at h; cases h
    | some v =>
      rw [hd] at h
      have hv : v = n := by
        unfold capN at h
        simp only at h
        split at h
        · injection h
        · cases h
      subst hv
      simp only [dgs] at hd
      split at hd
      · rename_i hi
        unfold isD at hi
        have h1 := dgs_ge _ _ _ hd
        have h2 : c.toNat ≠ 48 := fun h => hc (UInt8.toNat_inj.1 h)
        have h3 : 1 ≤ 10 ^ t.length := Nat.pow_pos (by decide)
        have h4 : (0 * 10 + (c.toNat - 48)) * 1 ≤ (0 * 10 + (c.toNat - 48)) * 10 ^ t.length := Nat.mul_le_mul_left _ h3
        omega
      · cases hd
theorem rd_bounds {l : List UInt8} {g : Bool} {ds : List UInt8} {p : Int} (hl : l.length ≤ 400) (h : rd l = some (g, ds, p)) : -10400 ≤ p ∧ p ≤ 10400 ∧ (∀ c t, ds = c :: t → c ≠ 48) ∧ ds.length ≤ 400 := by
  unfold rd at h
  simp only at h
  have l1 := mns_len l
  have l2 := figs_len (mns l).2
  have l3 := bhd_len (rst (mns l).2)
  split at h
  · cases h
  · split at h
    · cases h
    · split at h
      · cases h
      · rename_i e he
        have hx := expo_le he
        simp only [Option.some.injEq, Prod.mk.injEq] at h
        obtain ⟨_, rfl, rfl⟩ := h
        have l4 := tr0_len (figs (mns l).2 ++ (bhd (rst (mns l).2)).1)
        rw [List.length_append] at l4
        refine ⟨by omega, by omega, fun c t h => tl0_head h, ?_⟩
        have l5 : (tl0 (tr0 (figs (mns l).2 ++ (bhd (rst (mns l).2)).1))).length ≤ (tr0 (figs (mns l).2 ++ (bhd (rst (mns l).2)).1)).length := (List.dropWhile_sublist _).length_le
        omega
theorem dparse_any (l : List UInt8) (w : World) (hT : Tb w) :
    Calls Tryz.prog 8 #[.string (str l)] w fun e w' => e = .returned (dpans l) ∧ Below w.heap.size w w' := by
  have hs := str_size l
  unfold dpans
  by_cases h400 : 400 < l.length
  · rw [if_pos h400]
    exact dparse_long (str l) (by omega) w
  · rw [if_neg h400]
    have hs4 : ((str l).size : Int) ≤ 400 := by omega
    have k1 := fun W => read_any l (by omega) W
    cases hr : rd l with
    | none =>
      rw [hr] at k1
      exact dparse_syn (str l) hs4 w k1
    | some q =>
      obtain ⟨g, ds, p⟩ := q
      obtain ⟨b1, b2, b3, b4⟩ := rd_bounds (by omega) hr
      rw [hr] at k1
      simp only
      have hd := str_size ds
      by_cases h0 : ds = []
      · rw [if_pos h0]
        have k2 := fun W => whole_nil g (str ds) p (by rw [str_toList, h0]; rfl) (by rw [str_toList, h0]) W
        rw [z5_i5] at k2
        exact dparse_int (str l) g false (str ds) p 0 hs4 w k1 (fun W _ => k2 W)
      · rw [if_neg h0]
        have e1 : (str ds).toList.isEmpty = false := by rw [str_toList]; cases ds with | nil => exact absurd rfl h0 | cons => rfl
        have e2 : ¬ (str ds).toList = [] := by rw [str_toList]; exact h0
        have kp := fun W => pend_eq (parse_any W (str ds) (by omega))
        cases hn : parseN (str ds) with
        | none =>
          rw [hn] at kp
          have k2 := fun W => whole_core g (str ds) p 0 0 false false (Or.inr (Or.inl rfl)) e1 e2 W kp (fun h => by cases h)
          have k3 := fun W => plain_core g (str ds) p 0 W kp
          simp only [Bool.false_eq_true, false_and, if_false] at k2
          rw [z5_i5] at k2
          exact dparse_unrep (str l) g false (str ds) p 0 0 hs4 w k1 (fun W _ => k2 W) (fun W _ => k3 W)
        | some n =>
          rw [hn] at kp
          have hb := parseN_below (str ds)
          rw [hn] at hb
          have hb : n < 2 ^ 256 := hb
          have hne : n ≠ 0 := by
            cases hds : ds with
            | nil => exact absurd hds h0
            | cons c t => rw [hds] at hn; exact parseN_pos (b3 c t hds) hn
          simp only
          unfold dpv
          by_cases hp : 0 ≤ p
          · rw [if_pos hp]
            obtain ⟨k, rfl⟩ := Int.eq_ofNat_of_zero_le hp
            rw [Int.toNat_natCast]
            have kt := fun W => times_any n 10 k hb (by decide) (by decide) (by omega) W
            unfold tms at kt
            by_cases hv : n * 10 ^ k < 2 ^ 256
            · rw [if_pos hv]
              rw [if_pos hv] at kt
              have k2 := fun W => whole_core g (str ds) (k : Int) n (n * 10 ^ k) true true (Or.inl ⟨rfl, hp⟩) e1 e2 W kp (fun _ _ => kt)
              simp only [true_and, hp, if_true] at k2
              exact dparse_int (str l) g g (str ds) (k : Int) _ hs4 w k1 (fun W _ => k2 W)
            · rw [if_neg hv]
              rw [if_neg hv] at kt
              have k2 := fun W => whole_core g (str ds) (k : Int) n 0 true false (Or.inl ⟨rfl, hp⟩) e1 e2 W kp (fun _ _ => kt)
              have k3 := fun W => plain_pos g (str ds) (k : Int) n hp W kp
              simp only [true_and, hp, if_true] at k2
              exact dparse_unrep (str l) g g (str ds) (k : Int) 0 0 hs4 w k1 (fun W _ => k2 W) (fun W _ => k3 W)
          · rw [if_neg hp]
            have k2 := fun W => whole_core g (str ds) p n 0 true false (Or.inr (Or.inr (by omega))) e1 e2 W kp (fun _ h => absurd h hp)
            simp only [hp, and_false, if_false] at k2
            rw [z5_i5] at k2
            have k3 := fun W (hW : Below w.heap.size w W) => plain_any g (str ds) p n hb hne (by omega) (by omega) W (tb_on hT hW) kp
            cases hpl : plv g n p with
            | none =>
              rw [hpl] at k3
              exact dparse_unrep (str l) g false (str ds) p _ 0 hs4 w k1 (fun W _ => k2 W) k3
            | some y =>
              rw [plw_of hpl, hpl] at k3
              have h := dparse_float (str l) g false (str ds) p (y : Nat) 0 hs4 w k1 (fun W _ => k2 W) k3
              exact h
end Go.Proofs.YtoibaeilbolffaaGreatDoor
