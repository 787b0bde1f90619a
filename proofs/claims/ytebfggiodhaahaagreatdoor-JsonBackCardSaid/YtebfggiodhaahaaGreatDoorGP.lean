/-
  DyAny DyPrint DyOut, one behind the other: a claim holds at most 60 files.
-/
import Derived.Test.YtebfggiodhaahaaGreatDoorGH
import Derived.Test.YtebfggiodhaahaaGreatDoorGY
import Derived.Test.YtebfggiodhaahaaGreatDoorGD
import Derived.Test.YtebfggiodhaahaaGreatDoorWidthsMath
section
namespace Go.Proofs.YtebfggiodhaahaaGreatDoor
open Go.RowKit Go.Shelf

def ER (k : Int) : Value := .tuple #[VZ, .int .i64 k]
/-- The word of a whole number by a power of two. -/
def wby (g : Bool) (q : Nat) (p : Int) : Nat := g.toNat * 9223372036854775808 + nr (q / 2 ^ tz q) ((tz q : Nat) + p)
/-- What plain answers of a number. -/
def plv (g : Bool) (n : Nat) (p : Int) : Option Nat :=
  if 5 ^ (-p).toNat ∣ n ∧ exq (n / 5 ^ (-p).toNat) = true ∧ cls (wby g (n / 5 ^ (-p).toNat) p) = 1 then some (wby g (n / 5 ^ (-p).toNat) p) else none
/-- The word that plain answers with it. -/
def plw (g : Bool) (n : Nat) (p : Int) : Nat := if 5 ^ (-p).toNat ∣ n ∧ exq (n / 5 ^ (-p).toNat) = true then wby g (n / 5 ^ (-p).toNat) p else 0
theorem plw_of {g : Bool} {n : Nat} {p : Int} {z : Nat} (h : plv g n p = some z) : plw g n p = z := by
  unfold plv at h
  unfold plw
  split at h
  · rename_i hc
    rw [if_pos ⟨hc.1, hc.2.1⟩]
    injection h
  · cases h
theorem five_small {n k : Nat} (hn : n < 2 ^ 256) (h0 : n ≠ 0) (h : 5 ^ k ∣ n) : k < 256 := by
  have h1 : 5 ^ k ≤ n := Nat.le_of_dvd (by omega) h
  have h2 : 2 ^ k ≤ 5 ^ k := Nat.pow_le_pow_left (by decide) k
  exact (Nat.pow_lt_pow_iff_right (a := 2) (by decide)).1 (Nat.lt_of_le_of_lt (Nat.le_trans h2 h1) hn)
theorem plain_any (g : Bool) (D : ByteArray) (p : Int) (n : Nat) (hn : n < 2 ^ 256) (h0 : n ≠ 0) (hp : p < 0) (hpl : -20000 ≤ p) (w : World) (hT : Tb w)
    (k1 : ∀ W, Calls Tryz.prog 171 #[.string D] W fun e w' => e = .returned (.tuple #[N4 n, .bool true]) ∧ Below W.heap.size W w') :
    Calls Tryz.prog 127 #[DV g D p] w fun e w' => e = .returned (.tuple #[.int .u64 (plw g n p : Nat), .bool (plv g n p).isSome]) ∧ Below w.heap.size w w' := by
  obtain ⟨k, hk⟩ : ∃ k : Nat, -p = (k : Int) := ⟨(-p).toNat, by omega⟩
  have hk2 : (-p).toNat = k := by omega
  unfold plv plw
  rw [hk2]
  have k2 := fun W => fives_any n k hn (by omega) W
  unfold wfv at k2
  rw [← hk] at k2
  have none_of : ∀ {c : Prop} [Decidable c] {b : Nat}, ¬ c → (if c then some b else none : Option Nat) = none := fun h => if_neg h
  by_cases h5 : 5 ^ k ∣ n
  · rw [if_pos h5] at k2
    have hks := five_small hn h0 h5
    have hq : n / 5 ^ k < 2 ^ 256 := Nat.lt_of_le_of_lt (Nat.div_le_self _ _) hn
    have hq0 : n / 5 ^ k ≠ 0 := by
      have h1 : 5 ^ k ≤ n := Nat.le_of_dvd (by omega) h5
      have := Nat.div_pos h1 (Nat.pow_pos (by decide))
      omega
    generalize n / 5 ^ k = q at *
    obtain ⟨z, hz, hg, ha⟩ : ∃ z : Int, decide (z < 0) = g ∧ z.natAbs = q ∧ True := by
      cases g
      · exact ⟨(q : Int), by rw [decide_eq_false (by omega)], by omega, trivial⟩
      · exact ⟨-(q : Int), by rw [decide_eq_true (by omega)], by omega, trivial⟩
    have eI : Iz z = I5 g q := by show I5 (decide (z < 0)) z.natAbs = _; rw [hz, hg]
    cases hx : exq q with
    | false =>
      rw [none_of (by rintro ⟨_, h, _⟩; cases h), if_neg (by rintro ⟨_, h⟩; cases h)]
      refine (plain_of g D p n q 0 hp hpl w k1 k2 (fun W hW => ofwhole_no g q W (tb_on hT hW) (fun W2 hT2 => ?_))).mono ?_
      · have := exact_z z (by rw [hg]; exact hq) W2 hT2
        rw [eI, hg, hx] at this
        exact this
      · rintro e w' ⟨he, hb⟩
        exact ⟨he, hb⟩
    | true =>
      obtain ⟨d, m, t, hd, e, et, hl, ht, _, hdiv⟩ := exq_parts hq hq0 hx
      have hd0 : d ≠ 0 := by omega
      have hw : wwd g q = g.toNat * 9223372036854775808 + nr d (t : Int) := by
        unfold wwd
        rw [if_neg hq0, ← et, hdiv]
      have hwb : wby g q p = g.toNat * 9223372036854775808 + nr d ((t : Int) + p) := by
        unfold wby
        rw [← et, hdiv]
      have hnr := (nr_spec (d := d) (p := (t : Int) + p) hd0 hl (by omega) (by omega)).1
      have hI : INF = 9218868437227405312 := rfl
      have hb64 : wby g q p < 18446744073709551616 := by rw [hwb]; cases g <;> simp only [Bool.toNat_true, Bool.toNat_false] <;> omega
      have h := plain_yes g D p n q ((wwd g q : Nat) : Int) ((wby g q p : Nat) : Int) ((cls (wby g q p) : Nat) : Int) hp hpl w k1 k2
        (fun W hW => by
          have := ofw_z z (by rw [hg]; exact hq) (by rw [hg]; exact hx) W (tb_on hT hW)
          rw [eI, hz, hg] at this
          exact this)
        (fun W => by
          have := same_below (dscaled_any g (d := d) (t := (t : Int)) (p := p) hd0 hl (by omega) (by omega) (by omega) (by omega) (by omega) (by omega) W)
          rw [← hw, ← hwb] at this
          exact this)
        (fun W hW => class_any _ hb64 W (tb_on hT hW))
      refine h.mono ?_
      rintro e w' ⟨he, hb⟩
      refine ⟨?_, hb⟩
      rw [he, if_pos (show 5 ^ k ∣ n ∧ true = true from ⟨h5, rfl⟩)]
      by_cases hc : cls (wby g q p) = 1
      · rw [if_pos ⟨h5, rfl, hc⟩, hc]; rfl
      · rw [if_neg (fun h => hc h.2.2)]
        have : (((cls (wby g q p) : Nat) : Int) == 1) = false := by rw [beq_eq_false_iff_ne]; omega
        rw [this]; rfl
  · rw [if_neg h5] at k2
    rw [none_of (fun h => h5 h.1), if_neg (fun h => h5 h.1)]
    refine (plain_five g D p n 0 hp hpl w k1 k2).mono ?_
    rintro e w' ⟨he, hb⟩
    exact ⟨he, hb⟩
/-- What Parse answers of a number that is not 0. -/
def dpv (g : Bool) (n : Nat) (p : Int) : Value :=
  if 0 ≤ p then (if n * 10 ^ p.toNat < 2 ^ 256 then .tuple #[VV 3 g (n * 10 ^ p.toNat) 0, .int .i64 0] else ER 5)
  else match plv g n p with
    | some y => .tuple #[VV 4 false 0 (y : Nat), .int .i64 0]
    | none => ER 5
/-- What Parse answers. -/
def dpans (l : List UInt8) : Value :=
  if 400 < l.length then ER 8 else
  match rd l with
  | none => ER 3
  | some (g, ds, p) =>
    if ds = [] then .tuple #[VV 3 false 0 0, .int .i64 0]
    else match parseN (str ds) with
      | none => ER 5
      | some n => dpv g n p
theorem z5_i5 : Z5 = I5 false 0 := by show Z5 = .agg #[_, _, _, _, _]; simp only [lb_zero]
theorem tl0_head {l : List UInt8} {c : UInt8} {t : List UInt8} (h : tl0 l = c :: t) : c ≠ 48 := by
  unfold tl0 at h
  induction l with
  | nil => cases h
  | cons d u ih =>
    rw [List.dropWhile_cons] at h
    split at h
    · exact ih h
    · rename_i hd
      cases h
      intro hc
      exact hd (by rw [hc]; rfl)
theorem parseN_pos {c : UInt8} {t : List UInt8} {n : Nat} (hc : c ≠ 48) (h : parseN (str (c :: t)) = some n) : n ≠ 0 := by
  unfold parseN at h
  split at h
  · cases h
  · rw [str_data, dfold_dgs _ 0 (by decide)] at h
    cases hd : dgs (c :: t) 0 with
    | none => rw [hd] at h; cases h
    | some v =>
      rw [hd] at h
      have hv : v = n := by
        unfold capN at h
        simp only at h
        split at h
        · injection h
        · cases h
      subst hv
      simp only [dgs] at hd
      split at hd
      · rename_i hi
        unfold isD at hi
        have h1 := dgs_ge _ _ _ hd
        have h2 : c.toNat ≠ 48 := fun h => hc (UInt8.toNat_inj.1 h)
        have h3 : 1 ≤ 10 ^ t.length := Nat.pow_pos (by decide)
        have h4 : (0 * 10 + (c.toNat - 48)) * 1 ≤ (0 * 10 + (c.toNat - 48)) * 10 ^ t.length := Nat.mul_le_mul_left _ h3
        omega
      · cases hd
theorem rd_bounds {l : List UInt8} {g : Bool} {ds : List UInt8} {p : Int} (hl : l.length ≤ 400) (h : rd l = some (g, ds, p)) : -10400 ≤ p ∧ p ≤ 10400 ∧ (∀ c t, ds = c :: t → c ≠ 48) ∧ ds.length ≤ 400 := by
  unfold rd at h
  simp only at h
  have l1 := mns_len l
  have l2 := figs_len (mns l).2
  have l3 := bhd_len (rst (mns l).2)
  split at h
  · cases h
  · split at h
    · cases h
    · split at h
      · cases h
      · rename_i e he
        have hx := expo_le he
        simp only [Option.some.injEq, Prod.mk.injEq] at h
        obtain ⟨_, rfl, rfl⟩ := h
        have l4 := tr0_len (figs (mns l).2 ++ (bhd (rst (mns l).2)).1)
        rw [List.length_append] at l4
        refine ⟨by omega, by omega, fun c t h => tl0_head h, ?_⟩
        have l5 : (tl0 (tr0 (figs (mns l).2 ++ (bhd (rst (mns l).2)).1))).length ≤ (tr0 (figs (mns l).2 ++ (bhd (rst (mns l).2)).1)).length := (List.dropWhile_sublist _).length_le
        omega
theorem dparse_any (l : List UInt8) (w : World) (hT : Tb w) :
    Calls Tryz.prog 78 #[.string (str l)] w fun e w' => e = .returned (dpans l) ∧ Below w.heap.size w w' := by
  have hs := str_size l
  unfold dpans
  by_cases h400 : 400 < l.length
  · rw [if_pos h400]
    exact dparse_long (str l) (by omega) w
  · rw [if_neg h400]
    have hs4 : ((str l).size : Int) ≤ 400 := by omega
    have k1 := fun W => read_any l (by omega) W
    cases hr : rd l with
    | none =>
      rw [hr] at k1
      exact dparse_syn (str l) hs4 w k1
    | some q =>
      obtain ⟨g, ds, p⟩ := q
      obtain ⟨b1, b2, b3, b4⟩ := rd_bounds (by omega) hr
      rw [hr] at k1
      simp only
      have hd := str_size ds
      by_cases h0 : ds = []
      · rw [if_pos h0]
        have k2 := fun W => whole_nil g (str ds) p (by rw [str_toList, h0]; rfl) (by rw [str_toList, h0]) W
        rw [z5_i5] at k2
        exact dparse_int (str l) g false (str ds) p 0 hs4 w k1 (fun W _ => k2 W)
      · rw [if_neg h0]
        have e1 : (str ds).toList.isEmpty = false := by rw [str_toList]; cases ds with | nil => exact absurd rfl h0 | cons => rfl
        have e2 : ¬ (str ds).toList = [] := by rw [str_toList]; exact h0
        have kp := fun W => pend_eq (parse_any W (str ds) (by omega))
        cases hn : parseN (str ds) with
        | none =>
          rw [hn] at kp
          have k2 := fun W => whole_core g (str ds) p 0 0 false false (Or.inr (Or.inl rfl)) e1 e2 W kp (fun h => by cases h)
          have k3 := fun W => plain_core g (str ds) p 0 W kp
          simp only [Bool.false_eq_true, false_and, if_false] at k2
          rw [z5_i5] at k2
          exact dparse_unrep (str l) g false (str ds) p 0 0 hs4 w k1 (fun W _ => k2 W) (fun W _ => k3 W)
        | some n =>
          rw [hn] at kp
          have hb := parseN_below (str ds)
          rw [hn] at hb
          have hb : n < 2 ^ 256 := hb
          have hne : n ≠ 0 := by
            cases hds : ds with
            | nil => exact absurd hds h0
            | cons c t => rw [hds] at hn; exact parseN_pos (b3 c t hds) hn
          simp only
          unfold dpv
          by_cases hp : 0 ≤ p
          · rw [if_pos hp]
            obtain ⟨k, rfl⟩ := Int.eq_ofNat_of_zero_le hp
            rw [Int.toNat_natCast]
            have kt := fun W => times_any n 10 k hb (by decide) (by decide) (by omega) W
            unfold tms at kt
            by_cases hv : n * 10 ^ k < 2 ^ 256
            · rw [if_pos hv]
              rw [if_pos hv] at kt
              have k2 := fun W => whole_core g (str ds) (k : Int) n (n * 10 ^ k) true true (Or.inl ⟨rfl, hp⟩) e1 e2 W kp (fun _ _ => kt)
              simp only [true_and, hp, if_true] at k2
              exact dparse_int (str l) g g (str ds) (k : Int) _ hs4 w k1 (fun W _ => k2 W)
            · rw [if_neg hv]
              rw [if_neg hv] at kt
              have k2 := fun W => whole_core g (str ds) (k : Int) n 0 true false (Or.inl ⟨rfl, hp⟩) e1 e2 W kp (fun _ _ => kt)
              have k3 := fun W => plain_pos g (str ds) (k : Int) n hp W kp
              simp only [true_and, hp, if_true] at k2
              exact dparse_unrep (str l) g g (str ds) (k : Int) 0 0 hs4 w k1 (fun W _ => k2 W) (fun W _ => k3 W)
          · rw [if_neg hp]
            have k2 := fun W => whole_core g (str ds) p n 0 true false (Or.inr (Or.inr (by omega))) e1 e2 W kp (fun _ h => absurd h hp)
            simp only [hp, and_false, if_false] at k2
            rw [z5_i5] at k2
            have k3 := fun W (hW : Below w.heap.size w W) => plain_any g (str ds) p n hb hne (by omega) (by omega) W (tb_on hT hW) kp
            cases hpl : plv g n p with
            | none =>
              rw [hpl] at k3
              exact dparse_unrep (str l) g false (str ds) p _ 0 hs4 w k1 (fun W _ => k2 W) k3
            | some y =>
              rw [plw_of hpl, hpl] at k3
              have h := dparse_float (str l) g false (str ds) p (y : Nat) 0 hs4 w k1 (fun W _ => k2 W) k3
              exact h
end Go.Proofs.YtebfggiodhaahaaGreatDoor
end
section
namespace Go.Proofs.YtebfggiodhaahaaGreatDoor
open Go.RowKit Go.Shelf

/-- Digits with noughts ahead, one more than stand behind the point at least. -/
def padl (l : List UInt8) (k : Nat) : List UInt8 := List.replicate (k + 1 - l.length) 48 ++ l
def wpt (l : List UInt8) (k : Nat) : List UInt8 := (padl l k).take ((padl l k).length - k) ++ [46] ++ (padl l k).drop ((padl l k).length - k)
theorem padl_len (l : List UInt8) (k : Nat) : (padl l k).length = max (k + 1) l.length := by
  unfold padl
  rw [List.length_append, List.length_replicate]
  omega
theorem rep_list (n : Nat) : Lib.repeatL [48] n = List.replicate n 48 := by
  induction n with
  | zero => rfl
  | succ n ih => rw [List.replicate_succ, ← ih]; rfl
set_option maxHeartbeats 1000000 in
theorem point_core (S Z T : ByteArray) (k c A : Nat) (hk : k ≤ 64) (hS : S.size ≤ 200) (hZ : Z.size ≤ 200) (hT : Z ++ S = T) (hc : (c : Int) = max ((k : Int) + 1 - (S.size : Int)) 0) (hA : (T.size : Int) - (k : Int) = (A : Int)) (hTs : T.size ≤ 400) (hA2 : A ≤ T.size) (w : World)
    (k1 : ∀ W, Calls Tryz.prog 103 #[.string ⟨#[48]⟩, .int .i64 (c : Int)] W fun e w' => e = .returned (.string Z) ∧ Below W.heap.size W w') :
    Calls Tryz.prog 67 #[.string S, .int .i64 (k : Int)] w fun e w' => e = .returned (.string (T.extract 0 A ++ ⟨#[46]⟩ ++ T.extract A T.size)) ∧ Below w.heap.size w w' := by
  rw [hc] at k1
  have K1 := Lib.hid k1
  have q2 : Z.size + S.size ≤ 400 := by omega
  have q5 : (A : Int) ≤ (T.size : Int) := by omega
  have q6 : (0 : Int) ≤ (A : Int) := by omega
  clear k1 hc
  go_enter Tryz.func67, Tryz.ntmps67
  go_wp2_with fail
  (with_reducible refine (K1.out _).mono ?_)
  rintro e w1 ⟨rfl, hb⟩
  go_upto_region 3 with (fail)
  go_quiet (fail)
  go_wp2
  go_ret
  exact ⟨rfl, bdn hb _⟩
theorem wpoint_any (l : List UInt8) (k : Nat) (hk : k ≤ 64) (hl : l.length ≤ 130) (w : World) :
    Calls Tryz.prog 67 #[.string (str l), .int .i64 (k : Int)] w fun e w' => e = .returned (.string (str (wpt l k))) ∧ Below w.heap.size w w' := by
  have hs := str_size l
  have k1 := fun W => Tryz.strings_Repeat ⟨#[48]⟩ (k + 1 - l.length) W (by omega) (by show 1 * _ ≤ _; omega)
  have e1 : (⟨(Lib.repeatL (ByteArray.mk #[48]).data.toList (k + 1 - l.length)).toArray⟩ : ByteArray) = str (List.replicate (k + 1 - l.length) 48) := by
    show (⟨(Lib.repeatL [48] (k + 1 - l.length)).toArray⟩ : ByteArray) = _
    rw [rep_list]; rfl
  rw [e1] at k1
  have hz := str_size (List.replicate (k + 1 - l.length) (48 : UInt8))
  rw [List.length_replicate] at hz
  have e2 : str (List.replicate (k + 1 - l.length) 48) ++ str l = str (padl l k) := by rw [str_app]; rfl
  have hp := padl_len l k
  have hps := str_size (padl l k)
  have h := point_core (str l) (str (List.replicate (k + 1 - l.length) 48)) (str (padl l k)) k (k + 1 - l.length) ((padl l k).length - k) hk (by omega) (by omega) e2 (by omega) (by omega) (by omega) (by omega) w k1
  rw [str_take, str_drop] at h
  have e3 : str ((padl l k).take ((padl l k).length - k)) ++ ⟨#[46]⟩ ++ str ((padl l k).drop ((padl l k).length - k)) = str (wpt l k) := by
    rw [show (⟨#[46]⟩ : ByteArray) = str [46] from rfl, str_app, str_app]
    rfl
  rw [e3] at h
  exact h
theorem dprint_no (b c : Int) (hc : (c != 1) = true) (w : World)
    (k1 : ∀ W, Below w.heap.size w W → Calls Tryz.prog 59 #[.int .u64 b] W fun e w' => e = .returned (.int .i64 c) ∧ Below W.heap.size W w') :
    Calls Tryz.prog 34 #[.int .u64 b] w fun e w' => e = .returned (.tuple #[.string ⟨#[]⟩, .bool false]) ∧ Below w.heap.size w w' := by
  have K1 := Lib.hid k1; clear k1
  go_enter Tryz.func34, Tryz.ntmps34
  go_wp2_with fail
  (with_reducible refine (K1.out _ (Below.refl _ _)).mono ?_)
  rintro e w1 ⟨rfl, hb⟩
  go_wp2
  go_ret2
  exact ⟨rfl, hb⟩
set_option maxHeartbeats 1000000 in
theorem dprint_yes (b y : Int) (K q x : Nat) (g o1 o2 : Bool) (P X : ByteArray) (hX : X.size ≤ 400) (w : World)
    (k1 : ∀ W, Below w.heap.size w W → Calls Tryz.prog 59 #[.int .u64 b] W fun e w' => e = .returned (.int .i64 1) ∧ Below W.heap.size W w')
    (k2 : ∀ W, Below w.heap.size w W → Calls Tryz.prog 63 #[.int .u64 b] W fun e w' => e = .returned (.int .i64 (K : Int)) ∧ Below W.heap.size W w')
    (k3 : ∀ W, Calls Tryz.prog 65 #[.int .u64 b, .int .i64 (K : Int)] W fun e w' => e = .returned (.int .u64 y) ∧ Below W.heap.size W w')
    (k4 : ∀ W, Below w.heap.size w W → Calls Tryz.prog 64 #[.int .u64 y] W fun e w' => e = .returned (.tuple #[I5 g q, .bool o1]) ∧ Below W.heap.size W w')
    (k5 : ∀ W, Calls Tryz.prog 66 #[N4 q, .int .u64 5, .int .i64 (K : Int)] W fun e w' => e = .returned (.tuple #[N4 x, .bool o2]) ∧ Below W.heap.size W w')
    (k6 : ∀ W, Below w.heap.size w W → Calls Tryz.prog 68 #[N4 x] W fun e w' => e = .returned (.string P) ∧ Below W.heap.size W w')
    (k7 : ∀ W, Calls Tryz.prog 67 #[.string P, .int .i64 (K : Int)] W fun e w' => e = .returned (.string X) ∧ Below W.heap.size W w') :
    Calls Tryz.prog 34 #[.int .u64 b] w fun e w' => e = .returned (.tuple #[.string (if g then ⟨#[45]⟩ ++ X else X), .bool true]) ∧ Below w.heap.size w w' := by
  have K1 := Lib.hid k1; have K2 := Lib.hid k2; have K3 := Lib.hid k3; have K4 := Lib.hid k4; have K5 := Lib.hid k5; have K6 := Lib.hid k6; have K7 := Lib.hid k7; clear k1 k2 k3 k4 k5 k6 k7
  cases g
  all_goals
    go_enter Tryz.func34, Tryz.ntmps34
    go_wp2_with fail
    (with_reducible refine (K1.out _ (Below.refl _ _)).mono ?_)
    rintro e w1 ⟨rfl, hw1⟩
    go_wp2_with fail
    (with_reducible refine (K2.out _ hw1).mono ?_)
    rintro e w2 ⟨rfl, hb⟩
    have hw2 := btr hw1 hb
    clear hb hw1
    go_wp2_with fail
    (with_reducible refine (K3.out _).mono ?_)
    rintro e w3 ⟨rfl, hb⟩
    have hw3 := btr hw2 hb
    clear hb hw2
    go_wp2_with fail
    (with_reducible refine (K4.out _ hw3).mono ?_)
    rintro e w4 ⟨rfl, hb⟩
    have hw4 := btr hw3 hb
    clear hb hw3
    go_wp2_with fail
    (with_reducible refine (K5.out _).mono ?_)
    rintro e w5 ⟨rfl, hb⟩
    have R5 := Row5.keep hb (Row5.new _ _ _ _ _ _)
    have hw5 := btr (bal hw4 _) hb
    clear hb hw4
    have hl5 := R5.lt
    go_wp2_with fail
    (with_reducible refine (K6.out _ (bal hw5 _)).mono ?_)
    rintro e w6 ⟨rfl, hb⟩
    have R6 := Row5.keep hb (Row5.alloc R5 _)
    have hw6 := btr (bal hw5 _) hb
    clear hb hw5 R5
    go_wp2_with fail
    (with_reducible refine (K7.out _).mono ?_)
    rintro e w7 ⟨rfl, hb⟩
    have R7 := Row5.keep hb R6
    have hw7 := btr hw6 hb
    clear hb hw6 R6
    obtain ⟨c0, c1, c2, c3, c4⟩ := R7.parts
    go_wp2
    go_ret2
    exact ⟨rfl, hw7⟩
end Go.Proofs.YtebfggiodhaahaaGreatDoor
end
section
namespace Go.Proofs.YtebfggiodhaahaaGreatDoor
open Go.RowKit Go.Shelf

theorem plain_parts {b : Nat} (hc : cls b = 1) : ∃ d m K, d = 2 * m + 1 ∧ 1 ≤ K ∧ K ≤ 64 ∧ beh b = K ∧ d.log2 ≤ 52 ∧ od b = d ∧ b = sg b * 9223372036854775808 + nr d (-(K : Int)) ∧ rg b < INF := by
  unfold cls at hc
  split at hc
  · cases hc
  · split at hc
    · split at hc <;> cases hc
    · split at hc
      · cases hc
      · split at hc
        · cases hc
        · rename_i h1 h2 h3 h4
          have hf : rg b < INF := by omega
          have hB : beh b = (-(pw b)).toNat := by unfold beh; rw [if_pos hf]
          have h0 : dg b ≠ 0 := by
            intro h
            have : pw b = 0 := by unfold pw; rw [if_pos h]
            rw [this] at hB
            exact h4 (Or.inl (by rw [hB]; rfl))
          obtain ⟨n, hn, _⟩ := ctz_word h0 (dg_lt b)
          have hod : od b = 2 * n + 1 := by
            unfold od
            rw [if_neg h0]
            have : (2 * n + 1) * 2 ^ Lib.ctz 64 (dg b) / 2 ^ Lib.ctz 64 (dg b) = 2 * n + 1 := Nat.mul_div_cancel _ (Nat.two_pow_pos _)
            rw [Nat.mul_comm, ← hn] at this
            exact this
          have hpw : pw b = ex b + (Lib.ctz 64 (dg b) : Nat) := by
            unfold pw ex
            rw [if_neg h0]
            generalize b / 4503599627370496 % 2048 = f
            generalize Lib.ctz 64 (dg b) = c
            split <;> omega
          have hlg : (dg b).log2 = (2 * n + 1).log2 + Lib.ctz 64 (dg b) := by
            have := lg_mul (2 * n + 1) (Lib.ctz 64 (dg b)) (by omega)
            rw [Nat.mul_comm, ← hn] at this
            exact this
          have hd53 : (dg b).log2 < 53 := lg_lt (by
            have : dg b < 9007199254740992 := by unfold dg; split <;> omega
            exact Nat.lt_of_lt_of_le this (by decide)) h0
          refine ⟨2 * n + 1, n, beh b, rfl, by omega, by omega, rfl, by omega, hod, ?_, hf⟩
          have hw := word_fit hf (d := 2 * n + 1) (t := Lib.ctz 64 (dg b)) (by rw [Nat.mul_comm]; exact hn) h0 hlg (by omega)
          have he : ex b + ((Lib.ctz 64 (dg b) : Nat) : Int) = -((beh b : Nat) : Int) := by omega
          rw [he] at hw
          rw [hw]
          exact word_of b
/-- What Print answers. -/
def ptx (b : Nat) : List UInt8 := (if sg b = 1 then [45] else []) ++ wpt (Lib.decDigits (od b * 5 ^ beh b)) (beh b)
def prans (b : Nat) : Value := if cls b = 1 then .tuple #[.string (str (ptx b)), .bool true] else .tuple #[.string ⟨#[]⟩, .bool false]
theorem wend_odd {Y d : Nat} {g : Bool} (hd0 : d ≠ 0) (hw : whl Y = some d) (hg : g = (sg Y == 1)) (h2 : sg Y = 0 ∨ sg Y = 1) : WEnd Y = .tuple #[I5 g d, .bool true] := by
  unfold WEnd
  rw [hw]
  simp only
  rcases h2 with h | h
  · rw [h] at hg
    rw [h, if_neg (by decide), hg]
    show Value.tuple #[I5 (decide ((d : Int) < 0)) ((d : Int)).natAbs, _] = _
    rw [decide_eq_false (by omega), Int.natAbs_natCast]
    rfl
  · rw [h] at hg
    rw [h, if_pos rfl, hg]
    show Value.tuple #[I5 (decide (-(d : Int) < 0)) (-(d : Int)).natAbs, _] = _
    rw [decide_eq_true (by omega), Int.natAbs_neg, Int.natAbs_natCast]
    rfl
theorem sign_text (l : List UInt8) (s : Nat) (g : Bool) (hg : g = (s == 1)) (h2 : s = 0 ∨ s = 1) : (if g = true then (⟨#[45]⟩ ++ str l : ByteArray) else str l) = str ((if s = 1 then [45] else []) ++ l) := by
  rcases h2 with h | h
  · subst h; subst hg; rfl
  · subst h; subst hg
    show (⟨#[45]⟩ : ByteArray) ++ str l = str ([45] ++ l)
    rw [show (⟨#[45]⟩ : ByteArray) = str [45] from rfl, str_app]
theorem wpt_le (l : List UInt8) (K : Nat) (hK : K ≤ 64) (hl : l.length ≤ 78) : (str (wpt l K)).size ≤ 400 := by
  have hp := padl_len l K
  rw [str_size]
  unfold wpt
  rw [List.length_append, List.length_append, List.length_take, List.length_drop]
  simp only [List.length_cons, List.length_nil]
  omega
theorem five_fit {d K : Nat} (hd : d < 9007199254740992) (hK : K ≤ 64) : d * 5 ^ K < 2 ^ 256 := by
  have a : 5 ^ K ≤ 5 ^ 64 := Nat.pow_le_pow_right (by decide) hK
  have c : d * 5 ^ K ≤ 9007199254740992 * 5 ^ 64 := Nat.mul_le_mul (by omega) a
  exact Nat.lt_of_le_of_lt c (by decide +kernel)
theorem odd_small {d : Nat} (hd0 : d ≠ 0) (hl : d.log2 ≤ 52) : d < 9007199254740992 := by
  have hM := top_bounds hd0 hl
  rw [show (2 : Nat) ^ (52 + 1) = 9007199254740992 from by decide] at hM
  have : d * 1 ≤ d * 2 ^ (52 - d.log2) := Nat.mul_le_mul_left _ (Nat.two_pow_pos _)
  omega
theorem five_calls {d K x : Nat} (hd : d < 9007199254740992) (hK : K ≤ 64) (hx : x = d * 5 ^ K) (W : World) :
    Calls Tryz.prog 66 #[N4 d, .int .u64 5, .int .i64 (K : Int)] W fun e w' => e = .returned (.tuple #[N4 x, .bool true]) ∧ Below W.heap.size W w' := by
  have k5 := times_any d 5 K (Nat.lt_trans hd (by decide)) (by decide) (by decide) (by omega) W
  unfold tms at k5
  rw [if_pos (five_fit hd hK), ← hx] at k5
  exact k5
/-- The odd digits, times 2 ^ K: a whole number of floats. -/
theorem scaled_calls {b d K Y : Nat} {g : Bool} (hd0 : d ≠ 0) (hl : d.log2 ≤ 52) (hK1 : 1 ≤ K) (hK2 : K ≤ 64) (hsg : g.toNat = sg b) (hw : b = sg b * 9223372036854775808 + nr d (-(K : Int))) (hY : Y = sg b * 9223372036854775808 + nr d ((0 : Nat) : Int)) (W : World) :
    Calls Tryz.prog 65 #[.int .u64 (b : Int), .int .i64 (K : Int)] W fun e w' => e = .returned (.int .u64 (Y : Int)) ∧ Below W.heap.size W w' := by
  have k3 := same_below (dscaled_any g (d := d) (t := -(K : Int)) (p := (K : Int)) hd0 hl (by omega) (by omega) (by omega) (by omega) (by omega) (by omega) W)
  rw [hsg, ← hw, show -(K : Int) + (K : Int) = ((0 : Nat) : Int) from by omega, ← hY] at k3
  exact k3
theorem whole_odd {s d Y : Nat} {m : Nat} (hs : s < 2) (hd : d = 2 * m + 1) (hd0 : d ≠ 0) (hl : d.log2 ≤ 52) (hY : Y = s * 9223372036854775808 + nr d ((0 : Nat) : Int)) : whl Y = some d ∧ sg Y = s ∧ Y < 18446744073709551616 := by
  have hI : INF = 9218868437227405312 := rfl
  have hn0 := (nr_spec (d := d) (p := ((0 : Nat) : Int)) hd0 hl (by omega) (by omega)).1
  have hwp := word_parts (n := s) (r := nr d ((0 : Nat) : Int)) (by omega)
  have hwl := whl_odd (s := s) hd (t := 0) hl (by omega) (by rw [Nat.pow_zero, Nat.mul_one]; exact Nat.lt_trans (odd_small hd0 hl) (by decide))
  rw [Nat.pow_zero, Nat.mul_one, ← hY] at hwl
  rw [← hY] at hwp
  exact ⟨hwl, hwp.2, by omega⟩
theorem dprint_any (b : Nat) (hb : b < 18446744073709551616) (w : World) (hT : Tb w) (hU : Tab w) :
    Calls Tryz.prog 34 #[.int .u64 (b : Int)] w fun e w' => e = .returned (prans b) ∧ Below w.heap.size w w' := by
  have k1 := fun W (hW : Below w.heap.size w W) => class_any b hb W (tb_on hT hW)
  unfold prans
  by_cases hc : cls b = 1
  · rw [if_pos hc]
    rw [hc] at k1
    obtain ⟨d, m, K, hd, hK1, hK2, hB, hl, ho, hw, hf⟩ := plain_parts hc
    have hd0 : d ≠ 0 := by omega
    obtain ⟨hs2, hsg⟩ := sg_two hb
    have hd53 := odd_small hd0 hl
    obtain ⟨x, hx⟩ : ∃ x, x = d * 5 ^ K := ⟨_, rfl⟩
    have hx2 : x < 2 ^ 256 := hx ▸ five_fit hd53 hK2
    obtain ⟨Y, hY⟩ : ∃ Y, Y = sg b * 9223372036854775808 + nr d ((0 : Nat) : Int) := ⟨_, rfl⟩
    obtain ⟨hwl, hsY, hy64⟩ := whole_odd hs2 hd hd0 hl hY
    obtain ⟨g, hg⟩ : ∃ g, g = (sg b == 1) := ⟨_, rfl⟩
    rw [← hg] at hsg
    have k3 := fun W => scaled_calls hd0 hl hK1 hK2 hsg hw hY W
    have k4 := fun W (hW : Below w.heap.size w W) => whole_any Y hy64 W (tb_on hT hW)
    rw [wend_odd (g := g) hd0 hwl (by rw [hsY]; exact hg) (by omega)] at k4
    have k5 := fun W => five_calls hd53 hK2 hx W
    have k6 := fun W (hW : Below w.heap.size w W) => print_str x hx2 W (tab_on hU hW)
    have hdl := dstr_le hx2
    rw [dstr_size] at hdl
    have k7 := fun W => wpoint_any (Lib.decDigits x) K hK2 (by omega) W
    have k2 := fun W (hW : Below w.heap.size w W) => same_below (behind_any b hb W (tb_on hT hW))
    rw [hB] at k2
    have h := dprint_yes (b : Int) (Y : Int) K d x g true true _ _ (wpt_le _ K hK2 hdl) w k1 k2 k3 k4 k5 k6 k7
    rw [sign_text _ (sg b) g hg (by omega)] at h
    unfold ptx
    rw [ho, hB, ← hx]
    exact h
  · rw [if_neg hc]
    exact dprint_no (b : Int) _ (by rw [bne_iff_ne]; omega) w k1
end Go.Proofs.YtebfggiodhaahaaGreatDoor
end
