/-
  entrepotlaw3.FloatWholes answers true for every whole number of a sign and four words. The table math/bits.deBruijn64tab reads as its initialiser lays it.
-/
import Derived.Test.YtjdogiehcgfmjaaGreatDoorFWWalk
import Derived.Test.YtjdogiehcgfmjaaGreatDoorGF
namespace Go.Proofs.YtjdogiehcgfmjaaGreatDoor
open Go.RowKit Go.Shelf Ieee

theorem same_under {f : FuncId} {l : Array Value} {w : World} {r : Ending} (h : Calls Tryz.prog f l w fun e w' => e = r ∧ w' = w) : Calls Tryz.prog f l w fun e w' => e = r ∧ Below w.heap.size w w' :=
  h.mono (fun _ _ ⟨a, b⟩ => ⟨a, by rw [b]; exact Below.refl _ _⟩)
theorem eq5_mine (c : Bool) (v : Nat) (h : v < 2 ^ 256) : eq5 c (lb 0 v) (lb 1 v) (lb 2 v) (lb 3 v) c (lb 0 v) (lb 1 v) (lb 2 v) (lb 3 v) = true := by
  rw [eq5_int c c v v h h]; exact decide_eq_true ⟨rfl, rfl⟩
theorem rmay_fine (g : Bool) (x : Nat) (hx : x < 2 ^ 256) (h : ¬ (g = true ∧ x = 0)) (w : World) :
    Calls Tryz.prog 168 #[I5 g x] w fun e w' => e = .returned (.bool true) ∧ Below w.heap.size w w' := by
  cases g with
  | false => exact rmay_pos _ _ _ _ w
  | true =>
    have hm := rmay_neg (lb 0 x) (lb 1 x) (lb 2 x) (lb 3 x) w
    rw [show eq4 (lb 0 x) (lb 1 x) (lb 2 x) (lb 3 x) 0 0 0 0 = false from (eq4_of x 0 hx (by decide)).trans (decide_eq_false (fun h0 => h ⟨rfl, h0⟩))] at hm
    exact hm
theorem odd_ctz {d k m : Nat} (hd : d = 2 * m + 1) (h : d * 2 ^ k < 18446744073709551616) : Lib.ctz 64 (d * 2 ^ k) = k := by
  have hp := Nat.two_pow_pos k
  have h0 : d * 2 ^ k ≠ 0 := by
    have := Nat.mul_pos (show 0 < d by omega) hp
    omega
  obtain ⟨n, hn, _⟩ := ctz_word h0 h
  have hb : d * 2 ^ k < 2 ^ 256 := Nat.lt_trans h (by decide)
  have a := tz_unique hb hn
  have b := tz_unique (x := d * 2 ^ k) (k := k) (m := m) hb (by rw [← hd, Nat.mul_comm])
  omega
theorem nr_odd {d m : Nat} (hd : d = 2 * m + 1) {t : Nat} (hl : d.log2 ≤ 52) (ht : t + d.log2 ≤ 255) :
    nr d (t : Int) < INF ∧ dg (nr d (t : Int)) = d * 2 ^ (52 - d.log2) ∧ pw (nr d (t : Int)) = (t : Int) ∧ od (nr d (t : Int)) = d := by
  have h0 : d ≠ 0 := by omega
  obtain ⟨s1, s2, _, s4, s5⟩ := nr_spec (d := d) (p := (t : Int)) h0 hl (by omega) (by omega)
  have hb := top_bounds h0 hl
  rw [show (2 : Nat) ^ (52 + 1) = 9007199254740992 from by decide] at hb
  have hdg : dg (nr d (t : Int)) = d * 2 ^ (52 - d.log2) := by
    rw [← s2]
    unfold dg mg
    rw [dbl_binade, if_neg (by omega), if_neg (by omega)]
    omega
  have hc : Lib.ctz 64 (d * 2 ^ (52 - d.log2)) = 52 - d.log2 := odd_ctz hd (by omega)
  have hne : d * 2 ^ (52 - d.log2) ≠ 0 := by
    have := Nat.mul_pos (show 0 < d by omega) (Nat.two_pow_pos (52 - d.log2))
    omega
  refine ⟨s1, hdg, ?_, ?_⟩
  · unfold pw
    rw [hdg, if_neg hne, hc, s5]
    omega
  · unfold od
    rw [hdg, if_neg hne, hc, Nat.mul_div_cancel _ (Nat.two_pow_pos _)]
theorem whl_odd {d m : Nat} (hd : d = 2 * m + 1) {t s : Nat} (hl : d.log2 ≤ 52) (ht : t + d.log2 ≤ 255) (hn : d * 2 ^ t < 2 ^ 256) :
    whl (s * 9223372036854775808 + nr d (t : Int)) = some (d * 2 ^ t) := by
  obtain ⟨a, b, c, e⟩ := nr_odd hd hl ht
  have a' : nr d (t : Int) < 9223372036854775808 := Nat.lt_trans a (by decide)
  rw [whl_rg, (word_parts a').1]
  unfold whl
  rw [show rg (nr d (t : Int)) = nr d (t : Int) from by unfold rg; exact Nat.mod_eq_of_lt a', c, e, if_pos ⟨a, by omega, by rw [Int.toNat_natCast]; exact hn⟩, Int.toNat_natCast]
theorem cls_whole {b n : Nat} (h : whl b = some n) : cls b = 0 := by
  have hf : rg b < INF := by
    unfold whl at h
    split at h
    · rename_i c; exact c.1
    · cases h
  unfold cls
  rw [if_neg (by omega), if_neg (by omega), h]
  rfl
theorem blen_log {d : Nat} (h : d ≠ 0) : blen d = d.log2 + 1 :=
  blen_unique (by omega) (by rw [Nat.add_sub_cancel]; exact Nat.log2_self_le h) Nat.lt_log2_self
theorem blen_shl {d t : Nat} (h : d ≠ 0) : blen (d * 2 ^ t) = d.log2 + 1 + t := by
  refine blen_unique (by omega) ?_ ?_
  · rw [show d.log2 + 1 + t - 1 = d.log2 + t from by omega, Nat.pow_add]
    exact Nat.mul_le_mul_right _ (Nat.log2_self_le h)
  · rw [Nat.pow_add]
    exact Nat.mul_lt_mul_of_pos_right Nat.lt_log2_self (Nat.two_pow_pos t)
/-- What an exact number is made of. -/
theorem exq_parts {x : Nat} (hx : x < 2 ^ 256) (h0 : x ≠ 0) (hq : exq x = true) : ∃ d m t, d = 2 * m + 1 ∧ x = d * 2 ^ t ∧ t = tz x ∧ d.log2 ≤ 52 ∧ t + d.log2 ≤ 255 ∧ blen x = d.log2 + 1 + t ∧ x / 2 ^ t = d := by
  obtain ⟨⟨m, hm⟩, ht⟩ := tz_spec h0 hx
  have hx2 : x = (2 * m + 1) * 2 ^ tz x := by rw [Nat.mul_comm]; exact hm
  have hb : blen x = (2 * m + 1).log2 + 1 + tz x := by
    have := blen_shl (d := 2 * m + 1) (t := tz x) (by omega)
    rw [← hx2] at this
    exact this
  have hL := blen_le hx
  unfold exq at hq
  have hq := of_decide_eq_true hq
  refine ⟨2 * m + 1, m, tz x, rfl, hx2, rfl, by omega, by omega, hb, ?_⟩
  have : (2 * m + 1) * 2 ^ tz x / 2 ^ tz x = 2 * m + 1 := Nat.mul_div_cancel _ (Nat.two_pow_pos _)
  rw [← hx2] at this
  exact this
theorem sum_bits {s f r : Nat} (hs : s < 2) (hf : f < 2048) (hr : r < 4503599627370496) :
    bits .or .u64 (bits .or .u64 ((s * 9223372036854775808 : Nat) : Int) ((f * 4503599627370496 : Nat) : Int)) (r : Int) = ((s * 9223372036854775808 + f * 4503599627370496 + r : Nat) : Int) := by
  rw [u64_or_nat _ _ (by omega) (by omega)]
  have e1 : s * 9223372036854775808 ||| f * 4503599627370496 = s * 9223372036854775808 + f * 4503599627370496 := by
    have h := Nat.two_pow_add_eq_or_of_lt (i := 63) (b := f * 4503599627370496) (by omega) s
    rw [show (2 : Nat) ^ 63 = 9223372036854775808 from by decide] at h
    rw [Nat.mul_comm s, h]
  rw [e1, u64_or_nat _ _ (by omega) (by omega)]
  have e2 : (s * 9223372036854775808 + f * 4503599627370496) ||| r = s * 9223372036854775808 + f * 4503599627370496 + r := by
    have h := Nat.two_pow_add_eq_or_of_lt (i := 52) (b := r) (by omega) (s * 2048 + f)
    rw [show (2 : Nat) ^ 52 = 4503599627370496 from by decide] at h
    rw [show s * 9223372036854775808 + f * 4503599627370496 = 4503599627370496 * (s * 2048 + f) from by omega, h]
  rw [e2]
theorem mask_bits {r : Nat} (h : r < 18446744073709551616) : bits .and .u64 (r : Int) 4503599627370495 = ((r % 4503599627370496 : Nat) : Int) := by
  have := u64_and_nat r 4503599627370495 h (by decide)
  rw [show ((4503599627370495 : Nat) : Int) = 4503599627370495 from rfl] at this
  rw [this, show (4503599627370495 : Nat) = 2 ^ 52 - 1 from by decide, Nat.and_two_pow_sub_one_eq_mod]
/-- pack, of whole numbers that are exact. -/
theorem rpack_whole (g : Bool) {x d m t : Nat} (hx : x < 2 ^ 256) (hd : d = 2 * m + 1) (e : x = d * 2 ^ t) (hl : d.log2 ≤ 52) (ht : t + d.log2 ≤ 255) (hb : blen x = d.log2 + 1 + t) {s : Value} {w : World} (hs : DR w s x) :
    Calls Tryz.prog 42 #[.bool g, s, .int .i64 0, .int .i64 53, .int .i64 11] w fun e w' => e = .returned (.tuple #[.int .u64 ((g.toNat * 9223372036854775808 + nr d (t : Int) : Nat) : Int), .bool true]) ∧ Below w.heap.size w w' := by
  have lx : (digs x).length ≤ 1000 := Nat.le_trans (digs_len.2 (show x < 2 ^ (32 * 8) from hx)) (by decide)
  have h0 : d ≠ 0 := by omega
  have hdx : d ≤ x := by rw [e]; exact Nat.le_mul_of_pos_right _ (Nat.two_pow_pos t)
  have ld : (digs d).length ≤ 1000 := Nat.le_trans (digs_len.2 (show d < 2 ^ (32 * 8) from Nat.lt_of_le_of_lt hdx hx)) (by decide)
  have hdiv : x / 2 ^ t = d := by rw [e]; exact Nat.mul_div_cancel _ (Nat.two_pow_pos _)
  have hM := top_bounds h0 hl
  rw [show (2 : Nat) ^ 52 = 4503599627370496 from by decide, show (2 : Nat) ^ (52 + 1) = 9007199254740992 from by decide] at hM
  have hd53 : d < 9007199254740992 := by
    have : d * 1 ≤ d * 2 ^ (52 - d.log2) := Nat.mul_le_mul_left _ (Nat.two_pow_pos _)
    omega
  refine pack53_norm g s x d t (blen d) (blen x) 0 _ w hs (by decide) (by decide) (by omega) (by rw [beq_eq_false_iff_ne]; omega) (by rw [blen_log h0]; omega) (by rw [blen_log h0]; omega) (by rw [blen_log h0]; omega) (by rw [blen_log h0]; omega) (by omega)
    (fun s' W h => same_under (rlen h lx)) (fun s' W h => same_under (rtrail h lx (k := t) (m := m) (by rw [e, hd, Nat.mul_comm]) (by omega))) (fun s' W h => ?_) (fun s' W h => same_under (rlen h ld)) (fun s' W h => ?_) ?_
  · by_cases t0 : t = 0
    · subst t0
      have := rshift h lx 0 (by decide) (by decide)
      unfold shv at this
      rw [if_pos (by decide)] at this
      have e2 : x * 2 ^ (0 : Int).toNat = d := by rw [e]; simp
      rw [e2] at this
      exact this
    · have := rshift h lx (-(t : Int)) (by omega) (by omega)
      unfold shv at this
      rw [if_neg (by omega), show (-(-(t : Int))).toNat = t from by omega, hdiv] at this
      exact this
  · have := rnat h
    rw [if_pos (Nat.lt_of_le_of_lt hdx hx)] at this
    exact this
  · have l0 : lb 0 d = (d : Int) := by rw [lb0]; omega
    have hbl : 53 - blen d = 52 - d.log2 := by rw [blen_log h0]; omega
    rw [l0, hbl]
    have hw : IntKind.u64.wrap ((d : Int) * 2 ^ (52 - d.log2)) = ((d * 2 ^ (52 - d.log2) : Nat) : Int) := by
      rw [show (d : Int) * 2 ^ (52 - d.log2) = ((d * 2 ^ (52 - d.log2) : Nat) : Int) from by rw [Int.natCast_mul, Int.natCast_pow]; rfl]
      generalize d * 2 ^ (52 - d.log2) = M at hM
      rw [IntKind.wrap_u64]; omega
    rw [hw, mask_bits (by omega)]
    have hf : (0 + (t : Int) + (blen d : Int) - 1 + 1023) * 4503599627370496 = (((t + d.log2 + 1023) * 4503599627370496 : Nat) : Int) := by
      rw [blen_log h0]; omega
    have hsg : (if g = true then (9223372036854775808 : Int) else 0) = ((g.toNat * 9223372036854775808 : Nat) : Int) := by cases g <;> rfl
    rw [hf, hsg, sum_bits (by cases g <;> decide) (by omega) (by omega)]
    unfold nr
    rw [show ((t : Int) + (d.log2 : Nat) + 1022).toNat = t + d.log2 + 1022 from by omega]
    generalize d * 2 ^ (52 - d.log2) = M at hM
    exact congrArg (fun n : Nat => (n : Int)) (by omega)
/-- A float's word, of a whole number that is exact. -/
def wwd (g : Bool) (x : Nat) : Nat := if x = 0 then 0 else g.toNat * 9223372036854775808 + nr (x / 2 ^ tz x) (tz x : Int)
theorem ofw_z (z : Int) (hz : z.natAbs < 2 ^ 256) (hq : exq z.natAbs = true) (w : World) (hT : Tb w) :
    Calls Tryz.prog 80 #[Iz z] w fun e w' => e = .returned (.tuple #[.int .u64 (wwd (decide (z < 0)) z.natAbs : Nat), .bool true]) ∧ Below w.heap.size w w' := by
  have k1 : ∀ W, Tb W → Calls Tryz.prog 155 #[I5 (decide (z < 0)) z.natAbs] W fun e w' => e = .returned (.bool true) ∧ Below W.heap.size W w' := fun W hW => by
    have := exact_z z hz W hW
    rw [hq] at this
    exact this
  have k2 : ∀ W, Tb W → Calls Tryz.prog 156 #[N4 z.natAbs] W fun e w' => e = .returned (.int .i64 (tz z.natAbs : Int)) ∧ Below W.heap.size W w' := fun W hW => (trail_one _ hz W hW).mono (fun e w' ⟨he, o, ho⟩ => ⟨he, by rw [ho]; exact bal (Below.refl _ _) _⟩)
  have htl := tz_le hz
  have k3 := fun W => shr_any z.natAbs hz (tz z.natAbs : Int) (by omega) W
  rw [Int.toNat_natCast] at k3
  have hlow : ∀ d, d < 18446744073709551616 → ∀ W, Calls Tryz.prog 157 #[N4 d] W fun e w' => e = .returned (.tuple #[.int .u64 (d : Int), .bool true]) ∧ Below W.heap.size W w' := fun d hd W => by
    have := low_any d (Nat.lt_trans hd (by decide)) W
    rw [if_pos hd] at this
    exact this
  show Calls Tryz.prog 80 #[I5 (decide (z < 0)) z.natAbs] w _
  by_cases h0 : z.natAbs = 0
  · have hz0 : z = 0 := by omega
    subst hz0
    have := ofwhole_pos 0 0 256 0 0 w hT k1 k2 k3 (hlow 0 (by decide)) (fun W => same_under (scaled_zero 256 W))
    exact this
  · obtain ⟨d, m, t, hd, e, et, hl, ht, hb, hdiv⟩ := exq_parts hz h0 hq
    have hd0 : d ≠ 0 := by omega
    have hM := top_bounds hd0 hl
    rw [show (2 : Nat) ^ (52 + 1) = 9007199254740992 from by decide] at hM
    have hd53 : d < 9007199254740992 := by
      have : d * 1 ≤ d * 2 ^ (52 - d.log2) := Nat.mul_le_mul_left _ (Nat.two_pow_pos _)
      omega
    have hw : wwd (decide (z < 0)) z.natAbs = (decide (z < 0)).toNat * 9223372036854775808 + nr d (t : Int) := by
      unfold wwd
      rw [if_neg h0, ← et, hdiv]
    rw [hw]
    rw [← et] at k2 k3
    rw [hdiv] at k3
    have k5 := fun W => same_under (scaled_any d (t : Int) hd0 hl (by omega) (by omega) W)
    have hnr := (nr_odd hd hl ht).1
    have hI : INF = 9218868437227405312 := rfl
    cases hg : decide (z < 0) with
    | false =>
      rw [hg] at k1
      have := ofwhole_pos z.natAbs d (t : Int) d (nr d (t : Int) : Nat) w hT k1 k2 k3 (hlow d (by omega)) k5
      simp only [Bool.toNat_false, Nat.zero_mul, Nat.zero_add]
      exact this
    | true =>
      rw [hg] at k1
      refine ofwhole_neg z.natAbs d (t : Int) d (nr d (t : Int) : Nat) _ ?_ w hT k1 k2 k3 (hlow d (by omega)) k5
      have := u64_or_nat 9223372036854775808 (nr d (t : Int)) (by decide) (by omega)
      have h2 := Nat.two_pow_add_eq_or_of_lt (i := 63) (b := nr d (t : Int)) (by omega) 1
      rw [show (2 : Nat) ^ 63 = 9223372036854775808 from by decide, Nat.mul_one] at h2
      rw [← h2] at this
      simp only [Bool.toNat_true, Nat.one_mul]
      exact this
end Go.Proofs.YtjdogiehcgfmjaaGreatDoor
