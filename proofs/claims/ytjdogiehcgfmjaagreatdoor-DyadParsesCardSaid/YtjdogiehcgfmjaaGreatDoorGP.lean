/-
  DyAny DyPrint DyOut DyBack DyRun DyRExp, one behind the other: a claim holds at most 60 files.
-/
import Derived.Test.YtjdogiehcgfmjaaGreatDoorGH
import Derived.Test.YtjdogiehcgfmjaaGreatDoorFWAny
import Derived.Test.YtjdogiehcgfmjaaGreatDoorGD
import Derived.Test.YtjdogiehcgfmjaaGreatDoorWidthsMath
section
namespace Go.Proofs.YtjdogiehcgfmjaaGreatDoor
open Go.RowKit Go.Shelf

def ER (k : Int) : Value := .tuple #[VZ, .int .i64 k]
/-- The word of a whole number by a power of two. -/
def wby (g : Bool) (q : Nat) (p : Int) : Nat := g.toNat * 9223372036854775808 + nr (q / 2 ^ tz q) ((tz q : Nat) + p)
/-- What plain answers of a number. -/
def plv (g : Bool) (n : Nat) (p : Int) : Option Nat :=
  if 5 ^ (-p).toNat ∣ n ∧ exq (n / 5 ^ (-p).toNat) = true ∧ cls (wby g (n / 5 ^ (-p).toNat) p) = 1 then some (wby g (n / 5 ^ (-p).toNat) p) else none
/-- The word that plain answers with it. -/
def plw (g : Bool) (n : Nat) (p : Int) : Nat := if 5 ^ (-p).toNat ∣ n ∧ exq (n / 5 ^ (-p).toNat) = true then wby g (n / 5 ^ (-p).toNat) p else 0
theorem plw_of {g : Bool} {n : Nat} {p : Int} {z : Nat} (h : plv g n p = some z) : plw g n p = z := by
  unfold plv at h
  unfold plw
  split at h
  · rename_i hc
    rw [if_pos ⟨hc.1, hc.2.1⟩]
    injection h
  · cases h
theorem five_small {n k : Nat} (hn : n < 2 ^ 256) (h0 : n ≠ 0) (h : 5 ^ k ∣ n) : k < 256 := by
  have h1 : 5 ^ k ≤ n := Nat.le_of_dvd (by omega) h
  have h2 : 2 ^ k ≤ 5 ^ k := Nat.pow_le_pow_left (by decide) k
  exact (Nat.pow_lt_pow_iff_right (a := 2) (by decide)).1 (Nat.lt_of_le_of_lt (Nat.le_trans h2 h1) hn)
theorem plain_any (g : Bool) (D : ByteArray) (p : Int) (n : Nat) (hn : n < 2 ^ 256) (h0 : n ≠ 0) (hp : p < 0) (hpl : -20000 ≤ p) (w : World) (hT : Tb w)
    (k1 : ∀ W, Calls Tryz.prog 78 #[.string D] W fun e w' => e = .returned (.tuple #[N4 n, .bool true]) ∧ Below W.heap.size W w') :
    Calls Tryz.prog 34 #[DV g D p] w fun e w' => e = .returned (.tuple #[.int .u64 (plw g n p : Nat), .bool (plv g n p).isSome]) ∧ Below w.heap.size w w' := by
  obtain ⟨k, hk⟩ : ∃ k : Nat, -p = (k : Int) := ⟨(-p).toNat, by omega⟩
  have hk2 : (-p).toNat = k := by omega
  unfold plv plw
  rw [hk2]
  have k2 := fun W => fives_any n k hn (by omega) W
  unfold wfv at k2
  rw [← hk] at k2
  have none_of : ∀ {c : Prop} [Decidable c] {b : Nat}, ¬ c → (if c then some b else none : Option Nat) = none := fun h => if_neg h
  by_cases h5 : 5 ^ k ∣ n
  · rw [if_pos h5] at k2
    have hks := five_small hn h0 h5
    have hq : n / 5 ^ k < 2 ^ 256 := Nat.lt_of_le_of_lt (Nat.div_le_self _ _) hn
    have hq0 : n / 5 ^ k ≠ 0 := by
      have h1 : 5 ^ k ≤ n := Nat.le_of_dvd (by omega) h5
      have := Nat.div_pos h1 (Nat.pow_pos (by decide))
      omega
    generalize n / 5 ^ k = q at *
    obtain ⟨z, hz, hg, ha⟩ : ∃ z : Int, decide (z < 0) = g ∧ z.natAbs = q ∧ True := by
      cases g
      · exact ⟨(q : Int), by rw [decide_eq_false (by omega)], by omega, trivial⟩
      · exact ⟨-(q : Int), by rw [decide_eq_true (by omega)], by omega, trivial⟩
    have eI : Iz z = I5 g q := by show I5 (decide (z < 0)) z.natAbs = _; rw [hz, hg]
    cases hx : exq q with
    | false =>
      rw [none_of (by rintro ⟨_, h, _⟩; cases h), if_neg (by rintro ⟨_, h⟩; cases h)]
      refine (plain_of g D p n q 0 hp hpl w k1 k2 (fun W hW => ofwhole_no g q W (tb_on hT hW) (fun W2 hT2 => ?_))).mono ?_
      · have := exact_z z (by rw [hg]; exact hq) W2 hT2
        rw [eI, hg, hx] at this
        exact this
      · rintro e w' ⟨he, hb⟩
        exact ⟨he, hb⟩
    | true =>
      obtain ⟨d, m, t, hd, e, et, hl, ht, _, hdiv⟩ := exq_parts hq hq0 hx
      have hd0 : d ≠ 0 := by omega
      have hw : wwd g q = g.toNat * 9223372036854775808 + nr d (t : Int) := by
        unfold wwd
        rw [if_neg hq0, ← et, hdiv]
      have hwb : wby g q p = g.toNat * 9223372036854775808 + nr d ((t : Int) + p) := by
        unfold wby
        rw [← et, hdiv]
      have hnr := (nr_spec (d := d) (p := (t : Int) + p) hd0 hl (by omega) (by omega)).1
      have hI : INF = 9218868437227405312 := rfl
      have hb64 : wby g q p < 18446744073709551616 := by rw [hwb]; cases g <;> simp only [Bool.toNat_true, Bool.toNat_false] <;> omega
      have h := plain_yes g D p n q ((wwd g q : Nat) : Int) ((wby g q p : Nat) : Int) ((cls (wby g q p) : Nat) : Int) hp hpl w k1 k2
        (fun W hW => by
          have := ofw_z z (by rw [hg]; exact hq) (by rw [hg]; exact hx) W (tb_on hT hW)
          rw [eI, hz, hg] at this
          exact this)
        (fun W => by
          have := same_below (dscaled_any g (d := d) (t := (t : Int)) (p := p) hd0 hl (by omega) (by omega) (by omega) (by omega) (by omega) (by omega) W)
          rw [← hw, ← hwb] at this
          exact this)
        (fun W hW => class_any _ hb64 W (tb_on hT hW))
      refine h.mono ?_
      rintro e w' ⟨he, hb⟩
      refine ⟨?_, hb⟩
      rw [he, if_pos (show 5 ^ k ∣ n ∧ true = true from ⟨h5, rfl⟩)]
      by_cases hc : cls (wby g q p) = 1
      · rw [if_pos ⟨h5, rfl, hc⟩, hc]; rfl
      · rw [if_neg (fun h => hc h.2.2)]
        have : (((cls (wby g q p) : Nat) : Int) == 1) = false := by rw [beq_eq_false_iff_ne]; omega
        rw [this]; rfl
  · rw [if_neg h5] at k2
    rw [none_of (fun h => h5 h.1), if_neg (fun h => h5 h.1)]
    refine (plain_five g D p n 0 hp hpl w k1 k2).mono ?_
    rintro e w' ⟨he, hb⟩
    exact ⟨he, hb⟩
/-- What Parse answers of a number that is not 0. -/
def dpv (g : Bool) (n : Nat) (p : Int) : Value :=
  if 0 ≤ p then (if n * 10 ^ p.toNat < 2 ^ 256 then .tuple #[VV 3 g (n * 10 ^ p.toNat) 0, .int .i64 0] else ER 5)
  else match plv g n p with
    | some y => .tuple #[VV 4 false 0 (y : Nat), .int .i64 0]
    | none => ER 5
/-- What Parse answers. -/
def dpans (l : List UInt8) : Value :=
  if 400 < l.length then ER 8 else
  match rd l with
  | none => ER 3
  | some (g, ds, p) =>
    if ds = [] then .tuple #[VV 3 false 0 0, .int .i64 0]
    else match parseN (str ds) with
      | none => ER 5
      | some n => dpv g n p
theorem z5_i5 : Z5 = I5 false 0 := by show Z5 = .agg #[_, _, _, _, _]; simp only [lb_zero]
theorem tl0_head {l : List UInt8} {c : UInt8} {t : List UInt8} (h : tl0 l = c :: t) : c ≠ 48 := by
  unfold tl0 at h
  induction l with
  | nil => cases h
  | cons d u ih =>
    rw [List.dropWhile_cons] at h
    split at h
    · exact ih h
    · rename_i hd
      cases h
      intro hc
      exact hd (by rw [hc]; rfl)
theorem parseN_pos {c : UInt8} {t : List UInt8} {n : Nat} (hc : c ≠ 48) (h : parseN (str (c :: t)) = some n) : n ≠ 0 := by
  unfold parseN at h
  split at h
  · cases h
  · rw [str_data, dfold_dgs _ 0 (by decide)] at h
    cases hd : dgs (c :: t) 0 with
    | none => rw [hd] at h; cases h
    | some v =>
      rw [hd] at h
      have hv : v = n := by
        unfold capN at h
        simp only at h
        split at h
        · injection h
        · cases h
      subst hv
      simp only [dgs] at hd
      split at hd
      · rename_i hi
        unfold isD at hi
        have h1 := dgs_ge _ _ _ hd
        have h2 : c.toNat ≠ 48 := fun h => hc (UInt8.toNat_inj.1 h)
        have h3 : 1 ≤ 10 ^ t.length := Nat.pow_pos (by decide)
        have h4 : (0 * 10 + (c.toNat - 48)) * 1 ≤ (0 * 10 + (c.toNat - 48)) * 10 ^ t.length := Nat.mul_le_mul_left _ h3
        omega
      · cases hd
theorem rd_bounds {l : List UInt8} {g : Bool} {ds : List UInt8} {p : Int} (hl : l.length ≤ 400) (h : rd l = some (g, ds, p)) : -10400 ≤ p ∧ p ≤ 10400 ∧ (∀ c t, ds = c :: t → c ≠ 48) ∧ ds.length ≤ 400 := by
  unfold rd at h
  simp only at h
  have l1 := mns_len l
  have l2 := figs_len (mns l).2
  have l3 := bhd_len (rst (mns l).2)
  split at h
  · cases h
  · split at h
    · cases h
    · split at h
      · cases h
      · rename_i e he
        have hx := expo_le he
        simp only [Option.some.injEq, Prod.mk.injEq] at h
        obtain ⟨_, rfl, rfl⟩ := h
        have l4 := tr0_len (figs (mns l).2 ++ (bhd (rst (mns l).2)).1)
        rw [List.length_append] at l4
        refine ⟨by omega, by omega, fun c t h => tl0_head h, ?_⟩
        have l5 : (tl0 (tr0 (figs (mns l).2 ++ (bhd (rst (mns l).2)).1))).length ≤ (tr0 (figs (mns l).2 ++ (bhd (rst (mns l).2)).1)).length := (List.dropWhile_sublist _).length_le
        omega
theorem dparse_any (l : List UInt8) (w : World) (hT : Tb w) :
    Calls Tryz.prog 13 #[.string (str l)] w fun e w' => e = .returned (dpans l) ∧ Below w.heap.size w w' := by
  have hs := str_size l
  unfold dpans
  by_cases h400 : 400 < l.length
  · rw [if_pos h400]
    exact dparse_long (str l) (by omega) w
  · rw [if_neg h400]
    have hs4 : ((str l).size : Int) ≤ 400 := by omega
    have k1 := fun W => read_any l (by omega) W
    cases hr : rd l with
    | none =>
      rw [hr] at k1
      exact dparse_syn (str l) hs4 w k1
    | some q =>
      obtain ⟨g, ds, p⟩ := q
      obtain ⟨b1, b2, b3, b4⟩ := rd_bounds (by omega) hr
      rw [hr] at k1
      simp only
      have hd := str_size ds
      by_cases h0 : ds = []
      · rw [if_pos h0]
        have k2 := fun W => whole_nil g (str ds) p (by rw [str_toList, h0]; rfl) (by rw [str_toList, h0]) W
        rw [z5_i5] at k2
        exact dparse_int (str l) g false (str ds) p 0 hs4 w k1 (fun W _ => k2 W)
      · rw [if_neg h0]
        have e1 : (str ds).toList.isEmpty = false := by rw [str_toList]; cases ds with | nil => exact absurd rfl h0 | cons => rfl
        have e2 : ¬ (str ds).toList = [] := by rw [str_toList]; exact h0
        have kp := fun W => pend_eq (parse_any W (str ds) (by omega))
        cases hn : parseN (str ds) with
        | none =>
          rw [hn] at kp
          have k2 := fun W => whole_core g (str ds) p 0 0 false false (Or.inr (Or.inl rfl)) e1 e2 W kp (fun h => by cases h)
          have k3 := fun W => plain_core g (str ds) p 0 W kp
          simp only [Bool.false_eq_true, false_and, if_false] at k2
          rw [z5_i5] at k2
          exact dparse_unrep (str l) g false (str ds) p 0 0 hs4 w k1 (fun W _ => k2 W) (fun W _ => k3 W)
        | some n =>
          rw [hn] at kp
          have hb := parseN_below (str ds)
          rw [hn] at hb
          have hb : n < 2 ^ 256 := hb
          have hne : n ≠ 0 := by
            cases hds : ds with
            | nil => exact absurd hds h0
            | cons c t => rw [hds] at hn; exact parseN_pos (b3 c t hds) hn
          simp only
          unfold dpv
          by_cases hp : 0 ≤ p
          · rw [if_pos hp]
            obtain ⟨k, rfl⟩ := Int.eq_ofNat_of_zero_le hp
            rw [Int.toNat_natCast]
            have kt := fun W => times_any n 10 k hb (by decide) (by decide) (by omega) W
            unfold tms at kt
            by_cases hv : n * 10 ^ k < 2 ^ 256
            · rw [if_pos hv]
              rw [if_pos hv] at kt
              have k2 := fun W => whole_core g (str ds) (k : Int) n (n * 10 ^ k) true true (Or.inl ⟨rfl, hp⟩) e1 e2 W kp (fun _ _ => kt)
              simp only [true_and, hp, if_true] at k2
              exact dparse_int (str l) g g (str ds) (k : Int) _ hs4 w k1 (fun W _ => k2 W)
            · rw [if_neg hv]
              rw [if_neg hv] at kt
              have k2 := fun W => whole_core g (str ds) (k : Int) n 0 true false (Or.inl ⟨rfl, hp⟩) e1 e2 W kp (fun _ _ => kt)
              have k3 := fun W => plain_pos g (str ds) (k : Int) n hp W kp
              simp only [true_and, hp, if_true] at k2
              exact dparse_unrep (str l) g g (str ds) (k : Int) 0 0 hs4 w k1 (fun W _ => k2 W) (fun W _ => k3 W)
          · rw [if_neg hp]
            have k2 := fun W => whole_core g (str ds) p n 0 true false (Or.inr (Or.inr (by omega))) e1 e2 W kp (fun _ h => absurd h hp)
            simp only [hp, and_false, if_false] at k2
            rw [z5_i5] at k2
            have k3 := fun W (hW : Below w.heap.size w W) => plain_any g (str ds) p n hb hne (by omega) (by omega) W (tb_on hT hW) kp
            cases hpl : plv g n p with
            | none =>
              rw [hpl] at k3
              exact dparse_unrep (str l) g false (str ds) p _ 0 hs4 w k1 (fun W _ => k2 W) k3
            | some y =>
              rw [plw_of hpl, hpl] at k3
              have h := dparse_float (str l) g false (str ds) p (y : Nat) 0 hs4 w k1 (fun W _ => k2 W) k3
              exact h
end Go.Proofs.YtjdogiehcgfmjaaGreatDoor
end
section
namespace Go.Proofs.YtjdogiehcgfmjaaGreatDoor
open Go.RowKit Go.Shelf

/-- Digits with noughts ahead, one more than stand behind the point at least. -/
def padl (l : List UInt8) (k : Nat) : List UInt8 := List.replicate (k + 1 - l.length) 48 ++ l
def wpt (l : List UInt8) (k : Nat) : List UInt8 := (padl l k).take ((padl l k).length - k) ++ [46] ++ (padl l k).drop ((padl l k).length - k)
theorem padl_len (l : List UInt8) (k : Nat) : (padl l k).length = max (k + 1) l.length := by
  unfold padl
  rw [List.length_append, List.length_replicate]
  omega
theorem rep_list (n : Nat) : Lib.repeatL [48] n = List.replicate n 48 := by
  induction n with
  | zero => rfl
  | succ n ih => rw [List.replicate_succ, ← ih]; rfl
set_option maxHeartbeats 1000000 in
theorem point_core (S Z T : ByteArray) (k c A : Nat) (hk : k ≤ 64) (hS : S.size ≤ 200) (hZ : Z.size ≤ 200) (hT : Z ++ S = T) (hc : (c : Int) = max ((k : Int) + 1 - (S.size : Int)) 0) (hA : (T.size : Int) - (k : Int) = (A : Int)) (hTs : T.size ≤ 400) (hA2 : A ≤ T.size) (w : World)
    (k1 : ∀ W, Calls Tryz.prog 141 #[.string ⟨#[48]⟩, .int .i64 (c : Int)] W fun e w' => e = .returned (.string Z) ∧ Below W.heap.size W w') :
    Calls Tryz.prog 70 #[.string S, .int .i64 (k : Int)] w fun e w' => e = .returned (.string (T.extract 0 A ++ ⟨#[46]⟩ ++ T.extract A T.size)) ∧ Below w.heap.size w w' := by
  rw [hc] at k1
  have K1 := Lib.hid k1
  have q2 : Z.size + S.size ≤ 400 := by omega
  have q5 : (A : Int) ≤ (T.size : Int) := by omega
  have q6 : (0 : Int) ≤ (A : Int) := by omega
  clear k1 hc
  go_enter Tryz.func70, Tryz.ntmps70
  go_wp2_with fail
  (with_reducible refine (K1.out _).mono ?_)
  rintro e w1 ⟨rfl, hb⟩
  go_upto_region 3 with (fail)
  go_quiet (fail)
  go_wp2
  go_ret
  exact ⟨rfl, bdn hb _⟩
theorem point_any (l : List UInt8) (k : Nat) (hk : k ≤ 64) (hl : l.length ≤ 130) (w : World) :
    Calls Tryz.prog 70 #[.string (str l), .int .i64 (k : Int)] w fun e w' => e = .returned (.string (str (wpt l k))) ∧ Below w.heap.size w w' := by
  have hs := str_size l
  have k1 := fun W => Tryz.strings_Repeat ⟨#[48]⟩ (k + 1 - l.length) W (by omega) (by show 1 * _ ≤ _; omega)
  have e1 : (⟨(Lib.repeatL (ByteArray.mk #[48]).data.toList (k + 1 - l.length)).toArray⟩ : ByteArray) = str (List.replicate (k + 1 - l.length) 48) := by
    show (⟨(Lib.repeatL [48] (k + 1 - l.length)).toArray⟩ : ByteArray) = _
    rw [rep_list]; rfl
  rw [e1] at k1
  have hz := str_size (List.replicate (k + 1 - l.length) (48 : UInt8))
  rw [List.length_replicate] at hz
  have e2 : str (List.replicate (k + 1 - l.length) 48) ++ str l = str (padl l k) := by rw [str_app]; rfl
  have hp := padl_len l k
  have hps := str_size (padl l k)
  have h := point_core (str l) (str (List.replicate (k + 1 - l.length) 48)) (str (padl l k)) k (k + 1 - l.length) ((padl l k).length - k) hk (by omega) (by omega) e2 (by omega) (by omega) (by omega) (by omega) w k1
  rw [str_take, str_drop] at h
  have e3 : str ((padl l k).take ((padl l k).length - k)) ++ ⟨#[46]⟩ ++ str ((padl l k).drop ((padl l k).length - k)) = str (wpt l k) := by
    rw [show (⟨#[46]⟩ : ByteArray) = str [46] from rfl, str_app, str_app]
    rfl
  rw [e3] at h
  exact h
theorem dprint_no (b c : Int) (hc : (c != 1) = true) (w : World)
    (k1 : ∀ W, Below w.heap.size w W → Calls Tryz.prog 66 #[.int .u64 b] W fun e w' => e = .returned (.int .i64 c) ∧ Below W.heap.size W w') :
    Calls Tryz.prog 31 #[.int .u64 b] w fun e w' => e = .returned (.tuple #[.string ⟨#[]⟩, .bool false]) ∧ Below w.heap.size w w' := by
  have K1 := Lib.hid k1; clear k1
  go_enter Tryz.func31, Tryz.ntmps31
  go_wp2_with fail
  (with_reducible refine (K1.out _ (Below.refl _ _)).mono ?_)
  rintro e w1 ⟨rfl, hb⟩
  go_wp2
  go_ret2
  exact ⟨rfl, hb⟩
set_option maxHeartbeats 1000000 in
theorem dprint_yes (b y : Int) (K q x : Nat) (g o1 o2 : Bool) (P X : ByteArray) (hX : X.size ≤ 400) (w : World)
    (k1 : ∀ W, Below w.heap.size w W → Calls Tryz.prog 66 #[.int .u64 b] W fun e w' => e = .returned (.int .i64 1) ∧ Below W.heap.size W w')
    (k2 : ∀ W, Below w.heap.size w W → Calls Tryz.prog 67 #[.int .u64 b] W fun e w' => e = .returned (.int .i64 (K : Int)) ∧ Below W.heap.size W w')
    (k3 : ∀ W, Calls Tryz.prog 68 #[.int .u64 b, .int .i64 (K : Int)] W fun e w' => e = .returned (.int .u64 y) ∧ Below W.heap.size W w')
    (k4 : ∀ W, Below w.heap.size w W → Calls Tryz.prog 52 #[.int .u64 y] W fun e w' => e = .returned (.tuple #[I5 g q, .bool o1]) ∧ Below W.heap.size W w')
    (k5 : ∀ W, Calls Tryz.prog 69 #[N4 q, .int .u64 5, .int .i64 (K : Int)] W fun e w' => e = .returned (.tuple #[N4 x, .bool o2]) ∧ Below W.heap.size W w')
    (k6 : ∀ W, Below w.heap.size w W → Calls Tryz.prog 71 #[N4 x] W fun e w' => e = .returned (.string P) ∧ Below W.heap.size W w')
    (k7 : ∀ W, Calls Tryz.prog 70 #[.string P, .int .i64 (K : Int)] W fun e w' => e = .returned (.string X) ∧ Below W.heap.size W w') :
    Calls Tryz.prog 31 #[.int .u64 b] w fun e w' => e = .returned (.tuple #[.string (if g then ⟨#[45]⟩ ++ X else X), .bool true]) ∧ Below w.heap.size w w' := by
  have K1 := Lib.hid k1; have K2 := Lib.hid k2; have K3 := Lib.hid k3; have K4 := Lib.hid k4; have K5 := Lib.hid k5; have K6 := Lib.hid k6; have K7 := Lib.hid k7; clear k1 k2 k3 k4 k5 k6 k7
  cases g
  all_goals
    go_enter Tryz.func31, Tryz.ntmps31
    go_wp2_with fail
    (with_reducible refine (K1.out _ (Below.refl _ _)).mono ?_)
    rintro e w1 ⟨rfl, hw1⟩
    go_wp2_with fail
    (with_reducible refine (K2.out _ hw1).mono ?_)
    rintro e w2 ⟨rfl, hb⟩
    have hw2 := btr hw1 hb
    clear hb hw1
    go_wp2_with fail
    (with_reducible refine (K3.out _).mono ?_)
    rintro e w3 ⟨rfl, hb⟩
    have hw3 := btr hw2 hb
    clear hb hw2
    go_wp2_with fail
    (with_reducible refine (K4.out _ hw3).mono ?_)
    rintro e w4 ⟨rfl, hb⟩
    have hw4 := btr hw3 hb
    clear hb hw3
    go_wp2_with fail
    (with_reducible refine (K5.out _).mono ?_)
    rintro e w5 ⟨rfl, hb⟩
    have R5 := Row5.keep hb (Row5.new _ _ _ _ _ _)
    have hw5 := btr (bal hw4 _) hb
    clear hb hw4
    have hl5 := R5.lt
    go_wp2_with fail
    (with_reducible refine (K6.out _ (bal hw5 _)).mono ?_)
    rintro e w6 ⟨rfl, hb⟩
    have R6 := Row5.keep hb (Row5.alloc R5 _)
    have hw6 := btr (bal hw5 _) hb
    clear hb hw5 R5
    go_wp2_with fail
    (with_reducible refine (K7.out _).mono ?_)
    rintro e w7 ⟨rfl, hb⟩
    have R7 := Row5.keep hb R6
    have hw7 := btr hw6 hb
    clear hb hw6 R6
    obtain ⟨c0, c1, c2, c3, c4⟩ := R7.parts
    go_wp2
    go_ret2
    exact ⟨rfl, hw7⟩
end Go.Proofs.YtjdogiehcgfmjaaGreatDoor
end
section
namespace Go.Proofs.YtjdogiehcgfmjaaGreatDoor
open Go.RowKit Go.Shelf

theorem plain_parts {b : Nat} (hc : cls b = 1) : ∃ d m K, d = 2 * m + 1 ∧ 1 ≤ K ∧ K ≤ 64 ∧ beh b = K ∧ d.log2 ≤ 52 ∧ od b = d ∧ b = sg b * 9223372036854775808 + nr d (-(K : Int)) ∧ rg b < INF := by
  unfold cls at hc
  split at hc
  · cases hc
  · split at hc
    · split at hc <;> cases hc
    · split at hc
      · cases hc
      · split at hc
        · cases hc
        · rename_i h1 h2 h3 h4
          have hf : rg b < INF := by omega
          have hB : beh b = (-(pw b)).toNat := by unfold beh; rw [if_pos hf]
          have h0 : dg b ≠ 0 := by
            intro h
            have : pw b = 0 := by unfold pw; rw [if_pos h]
            rw [this] at hB
            exact h4 (Or.inl (by rw [hB]; rfl))
          obtain ⟨n, hn, _⟩ := ctz_word h0 (dg_lt b)
          have hod : od b = 2 * n + 1 := by
            unfold od
            rw [if_neg h0]
            have : (2 * n + 1) * 2 ^ Lib.ctz 64 (dg b) / 2 ^ Lib.ctz 64 (dg b) = 2 * n + 1 := Nat.mul_div_cancel _ (Nat.two_pow_pos _)
            rw [Nat.mul_comm, ← hn] at this
            exact this
          have hpw : pw b = ex b + (Lib.ctz 64 (dg b) : Nat) := by
            unfold pw ex
            rw [if_neg h0]
            generalize b / 4503599627370496 % 2048 = f
            generalize Lib.ctz 64 (dg b) = c
            split <;> omega
          have hlg : (dg b).log2 = (2 * n + 1).log2 + Lib.ctz 64 (dg b) := by
            have := lg_mul (2 * n + 1) (Lib.ctz 64 (dg b)) (by omega)
            rw [Nat.mul_comm, ← hn] at this
            exact this
          have hd53 : (dg b).log2 < 53 := lg_lt (by
            have : dg b < 9007199254740992 := by unfold dg; split <;> omega
            exact Nat.lt_of_lt_of_le this (by decide)) h0
          refine ⟨2 * n + 1, n, beh b, rfl, by omega, by omega, rfl, by omega, hod, ?_, hf⟩
          have hw := word_fit hf (d := 2 * n + 1) (t := Lib.ctz 64 (dg b)) (by rw [Nat.mul_comm]; exact hn) h0 hlg (by omega)
          have he : ex b + ((Lib.ctz 64 (dg b) : Nat) : Int) = -((beh b : Nat) : Int) := by omega
          rw [he] at hw
          rw [hw]
          exact word_of b
/-- What Print answers. -/
def ptx (b : Nat) : List UInt8 := (if sg b = 1 then [45] else []) ++ wpt (Lib.decDigits (od b * 5 ^ beh b)) (beh b)
def prans (b : Nat) : Value := if cls b = 1 then .tuple #[.string (str (ptx b)), .bool true] else .tuple #[.string ⟨#[]⟩, .bool false]
theorem dstr_str (x : Nat) : dstr x = str (Lib.decDigits x) := rfl
theorem wend_odd {Y d : Nat} {g : Bool} (hd0 : d ≠ 0) (hw : whl Y = some d) (hg : g = (sg Y == 1)) (h2 : sg Y = 0 ∨ sg Y = 1) : WEnd Y = .tuple #[I5 g d, .bool true] := by
  unfold WEnd
  rw [hw]
  simp only
  rcases h2 with h | h
  · rw [h] at hg
    rw [h, if_neg (by decide), hg]
    show Value.tuple #[I5 (decide ((d : Int) < 0)) ((d : Int)).natAbs, _] = _
    rw [decide_eq_false (by omega), Int.natAbs_natCast]
    rfl
  · rw [h] at hg
    rw [h, if_pos rfl, hg]
    show Value.tuple #[I5 (decide (-(d : Int) < 0)) (-(d : Int)).natAbs, _] = _
    rw [decide_eq_true (by omega), Int.natAbs_neg, Int.natAbs_natCast]
    rfl
theorem sign_text (l : List UInt8) (s : Nat) (g : Bool) (hg : g = (s == 1)) (h2 : s = 0 ∨ s = 1) : (if g = true then (⟨#[45]⟩ ++ str l : ByteArray) else str l) = str ((if s = 1 then [45] else []) ++ l) := by
  rcases h2 with h | h
  · subst h; subst hg; rfl
  · subst h; subst hg
    show (⟨#[45]⟩ : ByteArray) ++ str l = str ([45] ++ l)
    rw [show (⟨#[45]⟩ : ByteArray) = str [45] from rfl, str_app]
theorem wpt_le (l : List UInt8) (K : Nat) (hK : K ≤ 64) (hl : l.length ≤ 78) : (str (wpt l K)).size ≤ 400 := by
  have hp := padl_len l K
  rw [str_size]
  unfold wpt
  rw [List.length_append, List.length_append, List.length_take, List.length_drop]
  simp only [List.length_cons, List.length_nil]
  omega
theorem five_fit {d K : Nat} (hd : d < 9007199254740992) (hK : K ≤ 64) : d * 5 ^ K < 2 ^ 256 := by
  have a : 5 ^ K ≤ 5 ^ 64 := Nat.pow_le_pow_right (by decide) hK
  have c : d * 5 ^ K ≤ 9007199254740992 * 5 ^ 64 := Nat.mul_le_mul (by omega) a
  exact Nat.lt_of_le_of_lt c (by decide +kernel)
theorem odd_small {d : Nat} (hd0 : d ≠ 0) (hl : d.log2 ≤ 52) : d < 9007199254740992 := by
  have hM := top_bounds hd0 hl
  rw [show (2 : Nat) ^ (52 + 1) = 9007199254740992 from by decide] at hM
  have : d * 1 ≤ d * 2 ^ (52 - d.log2) := Nat.mul_le_mul_left _ (Nat.two_pow_pos _)
  omega
theorem five_calls {d K x : Nat} (hd : d < 9007199254740992) (hK : K ≤ 64) (hx : x = d * 5 ^ K) (W : World) :
    Calls Tryz.prog 69 #[N4 d, .int .u64 5, .int .i64 (K : Int)] W fun e w' => e = .returned (.tuple #[N4 x, .bool true]) ∧ Below W.heap.size W w' := by
  have k5 := times_any d 5 K (Nat.lt_trans hd (by decide)) (by decide) (by decide) (by omega) W
  unfold tms at k5
  rw [if_pos (five_fit hd hK), ← hx] at k5
  exact k5
/-- The odd digits, times 2 ^ K: a whole number of floats. -/
theorem scaled_calls {b d K Y : Nat} {g : Bool} (hd0 : d ≠ 0) (hl : d.log2 ≤ 52) (hK1 : 1 ≤ K) (hK2 : K ≤ 64) (hsg : g.toNat = sg b) (hw : b = sg b * 9223372036854775808 + nr d (-(K : Int))) (hY : Y = sg b * 9223372036854775808 + nr d ((0 : Nat) : Int)) (W : World) :
    Calls Tryz.prog 68 #[.int .u64 (b : Int), .int .i64 (K : Int)] W fun e w' => e = .returned (.int .u64 (Y : Int)) ∧ Below W.heap.size W w' := by
  have k3 := same_below (dscaled_any g (d := d) (t := -(K : Int)) (p := (K : Int)) hd0 hl (by omega) (by omega) (by omega) (by omega) (by omega) (by omega) W)
  rw [hsg, ← hw, show -(K : Int) + (K : Int) = ((0 : Nat) : Int) from by omega, ← hY] at k3
  exact k3
theorem whole_odd {s d Y : Nat} {m : Nat} (hs : s < 2) (hd : d = 2 * m + 1) (hd0 : d ≠ 0) (hl : d.log2 ≤ 52) (hY : Y = s * 9223372036854775808 + nr d ((0 : Nat) : Int)) : whl Y = some d ∧ sg Y = s ∧ Y < 18446744073709551616 := by
  have hI : INF = 9218868437227405312 := rfl
  have hn0 := (nr_spec (d := d) (p := ((0 : Nat) : Int)) hd0 hl (by omega) (by omega)).1
  have hwp := word_parts (n := s) (r := nr d ((0 : Nat) : Int)) (by omega)
  have hwl := whl_odd (s := s) hd (t := 0) hl (by omega) (by rw [Nat.pow_zero, Nat.mul_one]; exact Nat.lt_trans (odd_small hd0 hl) (by decide))
  rw [Nat.pow_zero, Nat.mul_one, ← hY] at hwl
  rw [← hY] at hwp
  exact ⟨hwl, hwp.2, by omega⟩
theorem dprint_any (b : Nat) (hb : b < 18446744073709551616) (w : World) (hT : Tb w) (hU : Tab w) :
    Calls Tryz.prog 31 #[.int .u64 (b : Int)] w fun e w' => e = .returned (prans b) ∧ Below w.heap.size w w' := by
  have k1 := fun W (hW : Below w.heap.size w W) => class_any b hb W (tb_on hT hW)
  unfold prans
  by_cases hc : cls b = 1
  · rw [if_pos hc]
    rw [hc] at k1
    obtain ⟨d, m, K, hd, hK1, hK2, hB, hl, ho, hw, hf⟩ := plain_parts hc
    have hd0 : d ≠ 0 := by omega
    obtain ⟨hs2, hsg⟩ := sg_two hb
    have hd53 := odd_small hd0 hl
    obtain ⟨x, hx⟩ : ∃ x, x = d * 5 ^ K := ⟨_, rfl⟩
    have hx2 : x < 2 ^ 256 := hx ▸ five_fit hd53 hK2
    obtain ⟨Y, hY⟩ : ∃ Y, Y = sg b * 9223372036854775808 + nr d ((0 : Nat) : Int) := ⟨_, rfl⟩
    obtain ⟨hwl, hsY, hy64⟩ := whole_odd hs2 hd hd0 hl hY
    obtain ⟨g, hg⟩ : ∃ g, g = (sg b == 1) := ⟨_, rfl⟩
    rw [← hg] at hsg
    have k3 := fun W => scaled_calls hd0 hl hK1 hK2 hsg hw hY W
    have k4 := fun W (hW : Below w.heap.size w W) => whole_any Y hy64 W (tb_on hT hW)
    rw [wend_odd (g := g) hd0 hwl (by rw [hsY]; exact hg) (by omega)] at k4
    have k5 := fun W => five_calls hd53 hK2 hx W
    have k6 := fun W (hW : Below w.heap.size w W) => print_str x hx2 W (tab_on hU hW)
    have hdl := dstr_le hx2
    rw [dstr_size] at hdl
    have k7 := fun W => point_any (Lib.decDigits x) K hK2 (by omega) W
    have k2 := fun W (hW : Below w.heap.size w W) => same_below (behind_any b hb W (tb_on hT hW))
    rw [hB] at k2
    have h := dprint_yes (b : Int) (Y : Int) K d x g true true _ _ (wpt_le _ K hK2 hdl) w k1 k2 k3 k4 k5 k6 k7
    rw [sign_text _ (sg b) g hg (by omega)] at h
    unfold ptx
    rw [ho, hB, ← hx]
    exact h
  · rw [if_neg hc]
    exact dprint_no (b : Int) _ (by rw [bne_iff_ne]; omega) w k1
end Go.Proofs.YtjdogiehcgfmjaaGreatDoor
end
section
namespace Go.Proofs.YtjdogiehcgfmjaaGreatDoor
open Go.RowKit Go.Shelf

theorem isD_dfig {c : UInt8} (h : isD c) : dfig c = true := by unfold dfig; unfold isD at h; exact decide_eq_true h
theorem dfig_dec (x : Nat) : ∀ c ∈ Lib.decDigits x, dfig c = true := fun c hc => isD_dfig (dec_isD (x + 1) x (by omega) c hc)
theorem dfig_padl (x k : Nat) : ∀ c ∈ padl (Lib.decDigits x) k, dfig c = true := by
  intro c hc
  unfold padl at hc
  rw [List.mem_append] at hc
  rcases hc with hc | hc
  · rw [List.mem_replicate] at hc
    rw [hc.2]; rfl
  · exact dfig_dec x c hc
theorem takeWhile_all {p : UInt8 → Bool} : ∀ {l : List UInt8} (m : List UInt8), (∀ c ∈ l, p c = true) → (l ++ m).takeWhile p = l ++ m.takeWhile p
  | [], m, _ => rfl
  | c :: l, m, h => by
    rw [List.cons_append, List.takeWhile_cons, if_pos (h c (by simp)), takeWhile_all m (fun d hd => h d (by simp [hd]))]
    rfl
theorem dropWhile_all {p : UInt8 → Bool} : ∀ {l : List UInt8} (m : List UInt8), (∀ c ∈ l, p c = true) → (l ++ m).dropWhile p = m.dropWhile p
  | [], m, _ => rfl
  | c :: l, m, h => by
    rw [List.cons_append, List.dropWhile_cons, if_pos (h c (by simp)), dropWhile_all m (fun d hd => h d (by simp [hd]))]
theorem figs_point {A B : List UInt8} (hA : ∀ c ∈ A, dfig c = true) : figs (A ++ 46 :: B) = A ∧ rst (A ++ 46 :: B) = 46 :: B := by
  unfold figs rst
  rw [takeWhile_all _ hA, dropWhile_all _ hA]
  refine ⟨?_, rfl⟩
  rw [List.takeWhile_cons, if_neg (by decide), List.append_nil]
theorem figs_only {A : List UInt8} (hA : ∀ c ∈ A, dfig c = true) : figs A = A ∧ rst A = [] := by
  have h1 := takeWhile_all (p := dfig) [] hA
  have h2 := dropWhile_all (p := dfig) [] hA
  rw [List.append_nil] at h1 h2
  unfold figs rst
  rw [h1, h2]
  exact ⟨List.append_nil _, rfl⟩
theorem mns_sign {s : Nat} {l : List UInt8} (hs : s < 2) (hl : ∀ c t, l = c :: t → dfig c = true) : mns ((if s = 1 then [45] else []) ++ l) = (s == 1, l) := by
  have hc : s = 0 ∨ s = 1 := by omega
  rcases hc with h | h
  · subst h
    rw [if_neg (by decide), List.nil_append]
    rw [mns_no]
    · rfl
    · rintro ⟨t, rfl⟩
      have := hl 45 t rfl
      revert this; decide
  · subst h
    rw [if_pos rfl]
    rfl
theorem dec_end {x : Nat} (h : x % 10 = 5) : ∃ l, Lib.decDigits x = l ++ [53] := by
  by_cases h10 : x < 10
  · exact ⟨[], by rw [dec_small h10, show x = 5 from by omega]; rfl⟩
  · exact ⟨Lib.decDigits (x / 10), by rw [dec_step (by omega), h]; rfl⟩
theorem tr0_five (l : List UInt8) : tr0 (l ++ [53]) = l ++ [53] := by
  unfold tr0
  rw [List.reverse_append, List.reverse_singleton, List.singleton_append, List.dropWhile_cons, if_neg (by decide), List.reverse_cons, List.reverse_reverse]
theorem tl0_pad {l : List UInt8} (k : Nat) (h : ∃ c t, l = c :: t ∧ c ≠ 48) : tl0 (List.replicate k 48 ++ l) = l := by
  obtain ⟨c, t, rfl, hc⟩ := h
  unfold tl0
  rw [dropWhile_all _ (by intro d hd; rw [List.mem_replicate] at hd; rw [hd.2]; rfl), List.dropWhile_cons, if_neg (by rw [beq_iff_eq]; exact hc)]
/-- Digits with a point, and a sign ahead, as read takes them. -/
theorem rd_print {s x K : Nat} (hs : s < 2) (h5 : x % 10 = 5) (hK : 1 ≤ K) : rd ((if s = 1 then [45] else []) ++ wpt (Lib.decDigits x) K) = some (s == 1, Lib.decDigits x, -(K : Int)) := by
  have hp := padl_len (Lib.decDigits x) K
  have hall := dfig_padl x K
  obtain ⟨l, hl⟩ := dec_end h5
  obtain ⟨c, t, hc, hc0⟩ := dec_head (x + 1) x (by omega) (by omega)
  have hpe : padl (Lib.decDigits x) K = List.replicate (K + 1 - (Lib.decDigits x).length) 48 ++ Lib.decDigits x := rfl
  have htr : tr0 (padl (Lib.decDigits x) K) = padl (Lib.decDigits x) K := by
    rw [hpe, hl, ← List.append_assoc, tr0_five]
  have htl : tl0 (padl (Lib.decDigits x) K) = Lib.decDigits x := by
    rw [hpe]
    exact tl0_pad _ ⟨c, t, hc, hc0⟩
  have hone : (padl (Lib.decDigits x) K).length - K ≤ 1 ∨ (padl (Lib.decDigits x) K) = c :: t := by
    by_cases hd : (Lib.decDigits x).length ≤ K + 1
    · left; omega
    · right
      rw [hpe, show K + 1 - (Lib.decDigits x).length = 0 from by omega, hc]; rfl
  unfold wpt
  generalize padl (Lib.decDigits x) K = P at *
  obtain ⟨A, hA⟩ : ∃ A, A = P.take (P.length - K) := ⟨_, rfl⟩
  obtain ⟨B, hB⟩ : ∃ B, B = P.drop (P.length - K) := ⟨_, rfl⟩
  have hAB : A ++ B = P := by rw [hA, hB]; exact List.take_append_drop _ _
  have lA : A.length = P.length - K := by rw [hA, List.length_take]; omega
  have lB : B.length = K := by rw [hB, List.length_drop]; omega
  rw [← hA, ← hB, List.append_assoc, List.singleton_append]
  have dA : ∀ c ∈ A, dfig c = true := fun c h => hall c (by rw [← hAB]; exact List.mem_append_left _ h)
  have dB : ∀ c ∈ B, dfig c = true := fun c h => hall c (by rw [← hAB]; exact List.mem_append_right _ h)
  obtain ⟨fA, rA⟩ := figs_point (B := B) dA
  obtain ⟨fB, rB⟩ := figs_only dB
  have nA : A ≠ [] := by intro h; rw [h] at lA; simp only [List.length_nil] at lA; omega
  have nB : B ≠ [] := by intro h; rw [h] at lB; simp only [List.length_nil] at lB; omega
  have hm := mns_sign (l := A ++ 46 :: B) hs (by
    intro c t h
    cases A with
    | nil => exact absurd rfl nA
    | cons a A => rw [List.cons_append] at h; injection h with h1 _; rw [← h1]; exact dA a (by simp))
  unfold rd
  simp only
  rw [hm]
  simp only
  rw [fA, rA, bhd_yes]
  simp only
  rw [fB, rB]
  rw [if_neg (by
    rintro (h | ⟨h1, h2⟩)
    · exact nA h
    · rcases hone with h | h
      · omega
      · cases A with
        | nil => exact nA rfl
        | cons a A =>
          rw [h, List.cons_append] at hAB
          injection hAB with h3 _
          rw [List.take_succ_cons, List.take_zero] at h2
          injection h2 with h2 _
          exact hc0 (by rw [← h3, h2]))]
  rw [if_neg (by cases B with | nil => exact absurd rfl nB | cons b B => show ¬ ((true : Bool) = false); decide)]
  rw [hAB, htr, htl]
  show (match some (0 : Int) with | none => none | some e => some (s == 1, Lib.decDigits x, e + (A.length : Int) - (P.length : Int))) = _
  simp only
  rw [show (0 : Int) + (A.length : Int) - (P.length : Int) = -(K : Int) from by omega]
theorem five_odd {m K : Nat} (hK : 1 ≤ K) : ((2 * m + 1) * 5 ^ K) % 10 = 5 := by
  have h2 : ((2 * m + 1) * 5 ^ K) % 2 = 1 := by
    rw [Nat.mul_mod, Nat.pow_mod, show 5 % 2 = 1 from rfl, Nat.one_pow]
    omega
  have h5 : ((2 * m + 1) * 5 ^ K) % 5 = 0 := by
    obtain ⟨j, rfl⟩ : ∃ j, K = j + 1 := ⟨K - 1, by omega⟩
    rw [Nat.pow_succ, ← Nat.mul_assoc, Nat.mul_mod_left]
  omega
theorem ptx_len {b : Nat} (hc : cls b = 1) : (ptx b).length ≤ 400 := by
  obtain ⟨d, m, K, hd, hK1, hK2, hB, hl, ho, hw, hf⟩ := plain_parts hc
  have hd0 : d ≠ 0 := by omega
  have hdl := dstr_le (five_fit (odd_small hd0 hl) hK2)
  rw [dstr_size] at hdl
  have hp := padl_len (Lib.decDigits (d * 5 ^ K)) K
  unfold ptx wpt
  rw [ho, hB, List.length_append, List.length_append, List.length_append, List.length_take, List.length_drop]
  simp only [List.length_cons, List.length_nil]
  split <;> simp only [List.length_cons, List.length_nil] <;> omega
/-- What Print writes, Parse reads. -/
theorem dpans_ptx {b : Nat} (hb : b < 18446744073709551616) (hc : cls b = 1) : dpans (ptx b) = .tuple #[VV 4 false 0 (b : Nat), .int .i64 0] := by
  have hlen := ptx_len hc
  obtain ⟨d, m, K, hd, hK1, hK2, hB, hl, ho, hw, hf⟩ := plain_parts hc
  have hd0 : d ≠ 0 := by omega
  have hd53 := odd_small hd0 hl
  have hx := five_fit hd53 hK2
  obtain ⟨hs2, hsg⟩ := sg_two hb
  have hx5 : (d * 5 ^ K) % 10 = 5 := by rw [hd]; exact five_odd hK1
  have hrd : rd (ptx b) = some (sg b == 1, Lib.decDigits (d * 5 ^ K), -(K : Int)) := by
    unfold ptx
    rw [ho, hB]
    exact rd_print hs2 hx5 hK1
  have hne : Lib.decDigits (d * 5 ^ K) ≠ [] := by
    intro h
    have := dec_pos (d * 5 ^ K)
    rw [h] at this
    exact absurd this (by decide)
  have hpn : parseN (str (Lib.decDigits (d * 5 ^ K))) = some (d * 5 ^ K) := parseN_dec (str_data _) hx
  have htz : tz d = 0 := tz_unique (m := m) (Nat.lt_trans hd53 (by decide)) (by rw [Nat.pow_zero, Nat.one_mul]; exact hd)
  have hdiv : d * 5 ^ K / 5 ^ K = d := Nat.mul_div_cancel _ (Nat.pow_pos (by decide))
  have hwb : wby (sg b == 1) d (-(K : Int)) = b := by
    unfold wby
    rw [htz, Nat.pow_zero, Nat.div_one, show ((0 : Nat) : Int) + -(K : Int) = -(K : Int) from by omega, hsg]
    exact hw.symm
  have hex : exq d = true := by
    unfold exq
    rw [htz]
    have := blen_le (x := d) (k := 53) hd53
    exact decide_eq_true (by omega)
  have hpl : plv (sg b == 1) (d * 5 ^ K) (-(K : Int)) = some b := by
    unfold plv
    rw [show (- -(K : Int)).toNat = K from by omega, hdiv, hwb]
    exact if_pos ⟨Nat.dvd_mul_left _ _, hex, hc⟩
  unfold dpans
  rw [if_neg (by omega), hrd]
  simp only
  rw [if_neg hne, hpn]
  simp only
  unfold dpv
  rw [if_neg (by omega), hpl]
end Go.Proofs.YtjdogiehcgfmjaaGreatDoor
end
section
namespace Go.Proofs.YtjdogiehcgfmjaaGreatDoor
open Go.RowKit Go.Shelf

theorem figs_drop {l : List UInt8} {q : Nat} (h : q < l.length) : figs (l.drop q) = if dfig l[q] then l[q] :: figs (l.drop (q + 1)) else [] := by
  rw [List.drop_eq_getElem_cons h]
  unfold figs
  rw [List.takeWhile_cons]
theorem figs_end {l : List UInt8} {q : Nat} (h : l.length ≤ q) : figs (l.drop q) = [] := by
  rw [List.drop_eq_nil_of_le h]; rfl
set_option maxHeartbeats 1000000 in
theorem rrun (l : List UInt8) (hl : l.length ≤ 1000) (p : Nat) (hp : p ≤ l.length) (w : World) :
    Calls Tryz.prog 81 #[.string (str l), .int .i64 (p : Int)] w fun e w' => e = .returned (.int .i64 ((p + (figs (l.drop p)).length : Nat) : Int)) ∧ w' = w := by
  have hs := str_size l
  obtain ⟨V, hV⟩ : ∃ V : Nat, p + (figs (l.drop p)).length = V := ⟨_, rfl⟩
  have HV := Lib.hid hV
  rw [hV]
  clear hV
  obtain ⟨S, hS⟩ : ∃ S, str l = S := ⟨_, rfl⟩
  have HB : Hid (∀ k (h : k < S.size), ∃ h2 : k < l.length, S[k] = l[k]'h2) := fun k h => by
    subst hS
    have h2 : k < l.length := by rw [← hs]; exact h
    exact ⟨h2, byte_at l k h⟩
  rw [hS] at hs ⊢
  have hmax : S.size ≤ 1000 := by omega
  have HLS := Lib.hid hs
  have hp2 : p ≤ S.size := by omega
  clear hS hl hs hp
  go_enter Tryz.func81, Tryz.ntmps81
  go_wp2
  go_loop [1] (fun i => ∃ q : Nat, q ≤ S.size ∧ i = .int .i64 (q : Nat) ∧ Hid (q + (figs (l.drop q)).length = V)) (fun i => S.size - (intOf i).toNat)
  case atStart => exact ⟨p, hp2, rfl, HV.out⟩
  case round =>
    obtain ⟨q, hq, rfl, HQ⟩ := hrel
    by_cases hlt : q < S.size
    · obtain ⟨h2, e1⟩ := HB.out q hlt
      have hf := figs_drop h2
      rw [← e1] at hf
      have hlti : (q : Int) < (S.size : Int) := by omega
      obtain ⟨x, hx⟩ : ∃ x, S[q].toNat = x := ⟨_, rfl⟩
      have hdf : dfig S[q] = decide (48 ≤ x ∧ x ≤ 57) := by unfold dfig; rw [hx]
      rw [hdf] at hf
      by_cases ha : 48 ≤ x
      · by_cases hb : x ≤ 57
        · rw [decide_eq_true ⟨ha, hb⟩, if_pos rfl] at hf
          have HN : Hid (q + 1 + (figs (l.drop (q + 1))).length = V) := by
            have := HQ.out
            rw [hf, List.length_cons] at this
            unfold Hid; omega
          clear hf hdf e1 HQ
          go_wp2
          go_round
          case rel => exact ⟨q + 1, by omega, by go_num, HN⟩
          case measure => simp [intOf]; omega
        · rw [decide_eq_false (fun h => hb h.2), if_neg (by decide)] at hf
          have hqV : q = V := by have := HQ.out; rw [hf] at this; exact this
          subst hqV
          clear hf hdf e1 HQ
          go_wp2
          go_ret
          exact ⟨rfl, rfl⟩
      · rw [decide_eq_false (fun h => ha h.1), if_neg (by decide)] at hf
        have hqV : q = V := by have := HQ.out; rw [hf] at this; exact this
        subst hqV
        clear hf hdf e1 HQ
        go_wp2
        go_ret
        exact ⟨rfl, rfl⟩
    · have hqV : q = V := by
        have := HQ.out
        rw [figs_end (by have := HLS.out; omega)] at this
        exact this
      subst hqV
      clear HQ
      go_wp2
      go_ret
      exact ⟨rfl, rfl⟩
end Go.Proofs.YtjdogiehcgfmjaaGreatDoor
end
section
namespace Go.Proofs.YtjdogiehcgfmjaaGreatDoor
open Go.RowKit Go.Shelf

/-- The digits' number, which stops at a million. -/
def xst (n : Nat) (c : UInt8) : Nat := if (48 ≤ c.toNat ∧ c.toNat ≤ 57) ∧ n < 1000000 then n * 10 + (c.toNat - 48) else n
def xsz (n : Nat) : List UInt8 → Nat
  | [] => n
  | c :: t => xsz (xst n c) t
theorem xsz_snoc : ∀ (l : List UInt8) (n : Nat) (b : UInt8), xsz n (l ++ [b]) = xst (xsz n l) b
  | [], _, _ => rfl
  | _ :: t, _, b => xsz_snoc t _ b
theorem xst_le {n : Nat} {c : UInt8} (h : n ≤ 10000000) : xst n c ≤ 10000000 := by
  unfold xst
  split <;> omega
/-- What exponent answers. -/
def rxp (l : List UInt8) : Int := if l.head? = some 45 then -((min (xsz 0 l) 1000000 : Nat) : Int) else ((min (xsz 0 l) 1000000 : Nat) : Int)
theorem rexp_nil (w : World) : Calls Tryz.prog 37 #[.string ⟨#[]⟩] w fun e w' => e = .returned (.int .i64 0) ∧ w' = w := by
  go_enter Tryz.func37, Tryz.ntmps37
  go_wp2
  refine wp_loop_rounds 1 ?_
  rw [rounds_succ]
  go_wp2
  go_ret
  exact ⟨rfl, rfl⟩
set_option maxHeartbeats 2000000 in
set_option maxRecDepth 100000 in
theorem rexp_cons (c : UInt8) (t : List UInt8) (hl : (c :: t).length ≤ 1000) (w : World) :
    Calls Tryz.prog 37 #[.string (str (c :: t))] w fun e w' => e = .returned (.int .i64 (rxp (c :: t))) ∧ w' = w := by
  obtain ⟨f1, f2, f3, f4, _⟩ := cons_facts c t
  obtain ⟨x0, hx0⟩ : ∃ x0, c.toNat = x0 := ⟨_, rfl⟩
  obtain ⟨V, hV⟩ : ∃ V : Int, rxp (c :: t) = V := ⟨_, rfl⟩
  have HV : Hid ((if x0 = 45 then -((min (xsz 0 (c :: t)) 1000000 : Nat) : Int) else ((min (xsz 0 (c :: t)) 1000000 : Nat) : Int)) = V) := by
    unfold Hid
    rw [← hV]
    unfold rxp
    rw [List.head?_cons]
    by_cases h : x0 = 45
    · rw [if_pos h, if_pos (by rw [UInt8.toNat_inj.1 (show c.toNat = (45 : UInt8).toNat by rw [hx0, h]; rfl)])]
    · rw [if_neg h, if_neg (by intro hc; injection hc with hc; rw [hc] at hx0; exact h hx0.symm)]
  rw [hV]
  clear hV
  generalize c :: t = l at *
  have hs := str_size l
  obtain ⟨S, hS⟩ : ∃ S, str l = S := ⟨_, rfl⟩
  have HB : Hid (∀ k (h : k < S.size), ∃ h2 : k < l.length, S[k] = l[k]'h2 ∧ l.take (k + 1) = l.take k ++ [l[k]'h2]) := fun k h => by
    subst hS
    have h2 : k < l.length := by rw [← hs]; exact h
    exact ⟨h2, byte_at l k h, List.take_succ_eq_append_getElem h2⟩
  rw [hS] at hs f1 f2 f3 f4 ⊢
  have hmax : S.size ≤ 1000 := by omega
  have HT : Hid (l.take S.size = l) := by rw [hs]; exact List.take_length
  have f5 := congrArg UInt8.toNat (f4 f3)
  rw [hx0] at f5
  have f6 : (0 : Int) < (S.size : Int) := by omega
  have HX := Lib.hid hx0
  clear hS hl hs f4 hx0
  by_cases h45 : x0 = 45
  all_goals
    have HV2 := HV.out
    first | rw [if_pos h45] at HV2 | rw [if_neg h45] at HV2
    have HV3 := Lib.hid HV2
    have hc45 : ((x0 : Int) == 45) = decide (x0 = 45) := by
      by_cases h : x0 = 45
      · rw [h]; rfl
      · rw [decide_eq_false h, beq_eq_false_iff_ne]; omega
    first | rw [decide_eq_true h45] at hc45 | rw [decide_eq_false h45] at hc45
    clear HV2 HV h45
    go_enter Tryz.func37, Tryz.ntmps37
    go_wp2
    clear hc45 f5 f1 f2
    go_loop [4, 5] (fun n i => ∃ (k : Nat) (M : Int), k ≤ S.size ∧ 0 ≤ M ∧ M ≤ 10000000 ∧ i = .int .i64 (k : Nat) ∧ n = .int .i64 M ∧ Hid (M = ((xsz 0 (l.take k) : Nat) : Int))) (fun _ i => S.size - (intOf i).toNat)
    case atStart => exact ⟨0, 0, Nat.zero_le _, by decide, by decide, rfl, rfl, rfl⟩
    case round =>
      obtain ⟨k, M, hk, hm0, hm, rfl, rfl, HM⟩ := hrel
      by_cases hlt : k < S.size
      · obtain ⟨h2, e1, e2⟩ := HB.out k hlt
        have HM2 : Hid ((xsz 0 (l.take (k + 1))) = if (48 ≤ S[k].toNat ∧ S[k].toNat ≤ 57) ∧ M < 1000000 then (M * 10).toNat + (S[k].toNat - 48) else M.toNat) := by
          have h := HM.out
          unfold Hid
          rw [e2, xsz_snoc, e1, h]
          unfold xst
          generalize xsz 0 (l.take k) = z
          by_cases hz : (48 ≤ (l[k]'h2).toNat ∧ (l[k]'h2).toNat ≤ 57) ∧ z < 1000000
          · rw [if_pos hz, if_pos ⟨hz.1, by omega⟩]; omega
          · rw [if_neg hz, if_neg (fun h => hz ⟨h.1, by omega⟩)]; omega
        clear e1 e2 h2 HM
        have hlti : (k : Int) < (S.size : Int) := by omega
        obtain ⟨x, hx⟩ : ∃ x, S[k].toNat = x := ⟨_, rfl⟩
        rw [hx] at HM2
        by_cases d1 : 48 ≤ x
        · by_cases d2 : x ≤ 57
          · by_cases d3 : M < 1000000
            · obtain ⟨y, hy⟩ : ∃ y, x - 48 = y := ⟨_, rfl⟩
              have w1 : IntKind.u8.wrap ((x : Int) - 48) = (y : Int) := by rw [IntKind.wrap_u8]; omega
              have hy2 : (y : Int) ≤ 9 := by omega
              have HM3 : Hid (M * 10 + (y : Int) = ((xsz 0 (l.take (k + 1)) : Nat) : Int)) := by
                have h := HM2.out
                rw [if_pos ⟨⟨d1, d2⟩, d3⟩] at h
                unfold Hid; omega
              clear HM2 hy
              go_wp2
              go_round
              case rel => exact ⟨k + 1, M * 10 + (y : Int), by omega, by omega, by omega, by go_num, rfl, HM3⟩
              case measure => simp [intOf]; omega
            · have HM3 : Hid (M = ((xsz 0 (l.take (k + 1)) : Nat) : Int)) := by
                have h := HM2.out
                rw [if_neg (fun h => d3 h.2)] at h
                unfold Hid; omega
              clear HM2
              go_wp2
              go_round
              case rel => exact ⟨k + 1, M, by omega, hm0, hm, by go_num, rfl, HM3⟩
              case measure => simp [intOf]; omega
          · have HM3 : Hid (M = ((xsz 0 (l.take (k + 1)) : Nat) : Int)) := by
              have h := HM2.out
              rw [if_neg (fun h => d2 h.1.2)] at h
              unfold Hid; omega
            clear HM2
            go_wp2
            go_round
            case rel => exact ⟨k + 1, M, by omega, hm0, hm, by go_num, rfl, HM3⟩
            case measure => simp [intOf]; omega
        · have HM3 : Hid (M = ((xsz 0 (l.take (k + 1)) : Nat) : Int)) := by
            have h := HM2.out
            rw [if_neg (fun h => d1 h.1.1)] at h
            unfold Hid; omega
          clear HM2
          go_wp2
          go_round
          case rel => exact ⟨k + 1, M, by omega, hm0, hm, by go_num, rfl, HM3⟩
          case measure => simp [intOf]; omega
      · obtain rfl : k = S.size := by omega
        have hv := HV3.out
        have hm2 := HM.out
        rw [HT.out] at hm2
        rw [show ((min (xsz 0 l) 1000000 : Nat) : Int) = min M 1000000 from by omega] at hv
        clear HM hm2
        have HW := Lib.hid hv
        clear hv
        go_wp2
        go_ret
        exact ⟨by rw [← HW.out]; rfl, rfl⟩
end Go.Proofs.YtjdogiehcgfmjaaGreatDoor
end
