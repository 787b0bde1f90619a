/-
  entrepotlaw1.NatBits answers true for every number of four words and every place. The tables math/bits.deBruijn64tab, internal/strconv.uint64pow10 read as their initialisers lay them.
-/
import Derived.Test.YtngmdncidieclaaDoorNBitsA
import Derived.Test.YtngmdncidieclaaDoorNBitsB
import Derived.Test.YtngmdncidieclaaDoorNBitsC
import Derived.Test.YtngmdncidieclaaDoorNBitsD
namespace Go.Proofs.YtngmdncidieclaaDoor
open Go.RowKit Go.Shelf

theorem same_below {f : FuncId} {l : Array Value} {w : World} {r : Ending} (h : Calls Tryd.prog f l w fun e w' => e = r ∧ w' = w) : Calls Tryd.prog f l w fun e w' => e = r ∧ Below w.heap.size w w' :=
  h.mono (fun _ _ ⟨a, b⟩ => ⟨a, by rw [b]; exact Below.refl _ _⟩)
/-- What a shift to greater places answers. -/
def shq (x : Nat) (k : Int) : Bool := decide (0 ≤ k ∧ x * 2 ^ k.toNat < 2 ^ 256)
def shz (x : Nat) (k : Int) : Nat := if 0 ≤ k ∧ x * 2 ^ k.toNat < 2 ^ 256 then x * 2 ^ k.toNat else 0
theorem nshl (x : Nat) (hx : x < 2 ^ 256) (k : Int) (w : World) :
    Calls Tryd.prog 11 #[N4 x, .int .i64 k] w fun e w' => e = .returned (.tuple #[N4 (shz x k), .bool (shq x k)]) ∧ Below w.heap.size w w' := by
  have hz : N4 0 = .agg #[.int .u64 0, .int .u64 0, .int .u64 0, .int .u64 0] := by unfold N4; simp only [lb_zero]
  unfold shz shq
  by_cases h0 : 0 ≤ k
  · obtain ⟨j, rfl⟩ := Int.eq_ofNat_of_zero_le h0
    rw [Int.toNat_natCast]
    by_cases h : x * 2 ^ j < 2 ^ 256
    · rw [if_pos ⟨h0, h⟩, decide_eq_true ⟨h0, h⟩]; exact shl_ok x j hx h w
    · rw [if_neg (fun c => h c.2), decide_eq_false (fun c => h c.2), hz]; exact shl_no x j hx h w
  · rw [if_neg (fun c => h0 c.1), decide_eq_false (fun c => h0 c.1), hz]; exact shl_neg x k (by omega) w
theorem shv_neg (x m : Nat) : shv x (-(m : Int)) = x / 2 ^ m := by
  unfold shv
  by_cases h : m = 0
  · subst h; simp
  · rw [if_neg (by omega), show (-(-(m : Int))).toNat = m from by omega]
theorem tmod_bounds (k : Int) : -300 < Int.tmod k 300 ∧ Int.tmod k 300 < 300 ∧ (0 < Int.tmod k 300 → 0 ≤ k) ∧ (Int.tmod k 300 < 0 → k < 0) := by
  rcases Int.le_total 0 k with h | h
  · rw [Int.tmod_eq_emod_of_nonneg h]; omega
  · have e : Int.tmod k 300 = -(Int.tmod (-k) 300) := by rw [Int.neg_tmod, Int.neg_neg]
    rw [e, Int.tmod_eq_emod_of_nonneg (by omega)]
    omega
theorem shq_far {x : Nat} (h0 : x ≠ 0) {k : Int} (hk : 256 < k) : shq x k = false := by
  unfold shq
  apply decide_eq_false
  rintro ⟨_, h⟩
  have h1 : 2 ^ 256 ≤ 2 ^ k.toNat := Nat.pow_le_pow_right (by decide) (by omega)
  have h2 : 1 * 2 ^ k.toNat ≤ x * 2 ^ k.toNat := Nat.mul_le_mul_right _ (by omega)
  omega
theorem nbits_any (x : Nat) (k : Int) (hx : x < 2 ^ 256) (hk0 : -9223372036854775808 ≤ k) (hk1 : k ≤ 9223372036854775807) (w : World) (hT : Tabs w) :
    Calls Tryd.prog 3 #[N4 x, .int .i64 k] w fun e w' => e = .returned (.bool true) ∧ Below w.heap.size w w' := by
  obtain ⟨i, hi⟩ : ∃ i, i = Int.tmod k 300 := ⟨_, rfl⟩
  have hb := tmod_bounds k
  rw [← hi] at hb
  obtain ⟨m, hm⟩ : ∃ m : Nat, max i 0 = (m : Int) := ⟨(max i 0).toNat, by omega⟩
  have lx : (digs x).length ≤ 1000 := Nat.le_trans (digs_len.2 (show x < 2 ^ (32 * 8) from hx)) (by decide)
  have hneg : IntKind.i64.wrap (-(m : Int)) = -(m : Int) := by rw [Go.IntWalk.i64_in _ (by omega)]
  have hy2 : x / 2 ^ m < 2 ^ 256 := Nat.lt_of_le_of_lt (Nat.div_le_self _ _) hx
  have q2 : eq4 (lb 0 (x / 2 ^ m)) (lb 1 (x / 2 ^ m)) (lb 2 (x / 2 ^ m)) (lb 3 (x / 2 ^ m)) (lb 0 (x / 2 ^ m)) (lb 1 (x / 2 ^ m)) (lb 2 (x / 2 ^ m)) (lb 3 (x / 2 ^ m)) = true := by
    rw [eq4_nat _ _ hy2 hy2]; exact decide_eq_true rfl
  have q3 : eq4 (lb 0 x) 0 0 0 (lb 0 x) 0 0 0 = true := by unfold eq4; simp
  have klen : ∀ s' W, DR W s' x → Calls Tryd.prog 12 #[s'] W fun e w' => e = .returned (.int .i64 (blen x : Int)) ∧ Below W.heap.size W w' := fun s' W h => same_below (rlen h lx)
  have ksm : ∀ s' W, DR W s' x → Calls Tryd.prog 13 #[s', .int .i64 (-(m : Int))] W fun e w' => ∃ s2, e = .returned s2 ∧ DR w' s2 (x / 2 ^ m) ∧ Below W.heap.size W w' := fun s' W h => by
    have := rshift h lx (-(m : Int)) (by omega) (by omega)
    rw [shv_neg] at this
    exact this
  have knat : ∀ y, y < 2 ^ 256 → ∀ s' W, DR W s' y → Calls Tryd.prog 14 #[s'] W fun e w' => e = .returned (.tuple #[N4 y, .bool true]) ∧ Below W.heap.size W w' := fun y hy s' W h => by
    have := rnat h
    rw [if_pos hy] at this
    exact this
  have kshr : ∀ W, Calls Tryd.prog 17 #[N4 x, .int .i64 i] W fun e w' => e = .returned (N4 (x / 2 ^ m)) ∧ Below W.heap.size W w' := fun W => by
    have := shr_any x hx i (by omega) W
    rw [show i.toNat = m from by omega] at this
    exact this
  have ktr : ∀ s' W, DR W s' x → Calls Tryd.prog 20 #[s'] W fun e w' => e = .returned (.int .i64 (tz x : Int)) ∧ Below W.heap.size W w' := fun s' W h => by
    by_cases h0 : x = 0
    · subst h0; exact same_below (rtrail_zero h)
    · obtain ⟨⟨n, hn⟩, ht⟩ := tz_spec h0 hx
      exact same_below (rtrail h lx hn (by omega))
  have knt : ∀ W, Tb W → Calls Tryd.prog 19 #[N4 x] W fun e w' => e = .returned (.int .i64 (tz x : Int)) ∧ Below W.heap.size W w' := fun W hW => (trail_one _ hx W hW).mono (fun e w' ⟨he, o, ho⟩ => ⟨he, by rw [ho]; exact bal (Below.refl _ _) _⟩)
  have kb : ∀ j, ∀ W, Calls Tryd.prog 21 #[N4 x, .int .i64 j] W fun e w' => e = .returned (.bool (bitv x j)) ∧ Below W.heap.size W w' := fun j W => bit_any x hx j W
  have kd : ∀ j : Int, j ≤ 9223372036854775807 → ∀ s' W, DR W s' x → Calls Tryd.prog 22 #[s', .int .i64 j] W fun e w' => e = .returned (.bool (bitv x j)) ∧ Below W.heap.size W w' := fun j hj s' W h => same_below (rbit h j hj)
  have klow := fun W => low_any x hx W
  have knl := fun W => len_any x hx W
  have hL := blen_le hx
  have l0 := lb0 x; have l1 := lb1 x; have l2 := lb2 x; have l3 := lb3 x
  have hs := lb_sum x hx
  unfold val4 at hs
  have hsm : x < 18446744073709551616 → (lb 1 x == 0) = true ∧ (lb 2 x == 0) = true ∧ (lb 3 x == 0) = true ∧ ∀ W, Calls Tryd.prog 15 #[N4 x] W fun e w' => e = .returned (.tuple #[.int .u64 (lb 0 x), .bool true]) ∧ Below W.heap.size W w' := fun h => by
    refine ⟨beq_iff_eq.2 (by omega), beq_iff_eq.2 (by omega), beq_iff_eq.2 (by omega), fun W => ?_⟩
    have := klow W
    rw [if_pos h] at this
    rw [show lb 0 x = (x : Int) from by omega]
    exact this
  have hgt : ¬ x < 18446744073709551616 → ((lb 1 x == 0) = false ∨ ((lb 1 x == 0) = true ∧ (lb 2 x == 0) = false) ∨ ((lb 1 x == 0) = true ∧ (lb 2 x == 0) = true ∧ (lb 3 x == 0) = false)) ∧ ∀ W, Calls Tryd.prog 15 #[N4 x] W fun e w' => e = .returned (.tuple #[.int .u64 0, .bool false]) ∧ Below W.heap.size W w' := fun h => by
    refine ⟨?_, fun W => ?_⟩
    · cases h1 : (lb 1 x == 0) with
      | false => exact .inl rfl
      | true =>
        cases h2 : (lb 2 x == 0) with
        | false => exact .inr (.inl ⟨rfl, rfl⟩)
        | true =>
          refine .inr (.inr ⟨rfl, rfl, ?_⟩)
          have h1' := eq_of_beq h1; have h2' := eq_of_beq h2
          rw [beq_eq_false_iff_ne]; omega
    · have := klow W
      rw [if_neg h] at this
      exact this
  by_cases hA : i < 0
  · have hS : shz x i = 0 ∧ shq x i = false := ⟨by unfold shz; rw [if_neg (by omega)], by unfold shq; exact decide_eq_false (by omega)⟩
    have kshi := fun W => nshl x hx i W
    rw [hS.1, hS.2, show N4 0 = .agg #[.int .u64 0, .int .u64 0, .int .u64 0, .int .u64 0] from by unfold N4; simp only [lb_zero]] at kshi
    have hfar : shq x k = false := by unfold shq; exact decide_eq_false (by omega)
    by_cases hsx : x < 18446744073709551616
    · obtain ⟨z1, z2, z3, kl⟩ := hsm hsx
      exact nbits_As x _ _ m _ _ i k _ _ _ hx hi.symm hm hneg w hT hA (by omega) z1 z2 z3 q2 q3 trivial hfar kshi (fun W => nshl x hx k W) klen ksm (knat _ hy2) kl kshr knl knt ktr (kb i) (kd i (by omega)) (kb k) (kd k hk1)
    · obtain ⟨zz, kl⟩ := hgt hsx
      exact nbits_Ag x _ _ m _ _ i k _ _ _ hx hi.symm hm hneg w hT hA (by omega) zz q2 q3 trivial hfar kshi (fun W => nshl x hx k W) klen ksm (knat _ hy2) kl kshr knl knt ktr (kb i) (kd i (by omega)) (kb k) (kd k hk1)
  · have hi0 : 0 ≤ i := by omega
    by_cases h0 : x = 0
    · subst h0
      obtain ⟨z1, z2, z3, kl⟩ := hsm (by decide)
      have hq0 : ∀ j : Int, 0 ≤ j → shq 0 j = true := fun j hj => by unfold shq; exact decide_eq_true ⟨hj, by rw [Nat.zero_mul]; decide⟩
      have kshi := fun W => nshl 0 hx i W
      rw [hq0 i hi0] at kshi
      rw [show blen 0 = 0 from rfl] at klen knl
      refine nbits_Bs 0 _ _ _ m _ i k (shq 0 k) _ _ hx hi.symm hm hneg w hT hi0 hb.2.1 z1 z2 z3 q2 q3 ?_ kshi (fun W => nshl 0 hx k W) klen ksm (knat _ hy2) kl kshr knl knt ktr (kb i) (kd i (by omega)) (kb k) (kd k hk1)
      rcases Int.lt_or_le k 0 with hk | hk
      · exact .inl ⟨hk, by unfold shq; exact decide_eq_false (by omega)⟩
      · rcases Int.lt_or_le 256 k with hk2 | hk2
        · exact .inr (.inr ⟨hk2, hq0 k hk⟩)
        · exact .inr (.inl ⟨hk, hk2⟩)
    · have hbs := blen_spec h0
      have hL0 : (((blen x : Nat) : Int) == 0) = false := by rw [beq_eq_false_iff_ne]; omega
      have hkk : (k < 0 ∧ shq x k = false) ∨ (0 ≤ k ∧ k ≤ 256) ∨ (256 < k ∧ shq x k = false) := by
        rcases Int.lt_or_le k 0 with hk | hk
        · exact .inl ⟨hk, by unfold shq; exact decide_eq_false (by omega)⟩
        · rcases Int.lt_or_le 256 k with hk2 | hk2
          · exact .inr (.inr ⟨hk2, shq_far h0 hk2⟩)
          · exact .inr (.inl ⟨hk, hk2⟩)
      obtain ⟨j, rfl⟩ := Int.eq_ofNat_of_zero_le hi0
      have hp := mul_pow_lt (x := x) (k := j) h0
      have kshi := fun W => nshl x hx (j : Int) W
      by_cases hfit : blen x + j ≤ 256
      · have hlt := hp.2 hfit
        have hS : shz x (j : Int) = x * 2 ^ j ∧ shq x (j : Int) = true := by
          unfold shz shq
          rw [Int.toNat_natCast]
          exact ⟨if_pos ⟨hi0, hlt⟩, decide_eq_true ⟨hi0, hlt⟩⟩
        rw [hS.1, hS.2] at kshi
        have ksi : ∀ s' W, DR W s' x → Calls Tryd.prog 13 #[s', .int .i64 (j : Int)] W fun e w' => ∃ s2, e = .returned s2 ∧ DR w' s2 (x * 2 ^ j) ∧ Below W.heap.size W w' := fun s' W h => by
          have := rshift h lx (j : Int) (by omega) (by omega)
          unfold shv at this
          rw [if_pos hi0, Int.toNat_natCast] at this
          exact this
        have q1 : eq4 (lb 0 (x * 2 ^ j)) (lb 1 (x * 2 ^ j)) (lb 2 (x * 2 ^ j)) (lb 3 (x * 2 ^ j)) (lb 0 (x * 2 ^ j)) (lb 1 (x * 2 ^ j)) (lb 2 (x * 2 ^ j)) (lb 3 (x * 2 ^ j)) = true := by
          rw [eq4_nat _ _ hlt hlt]; exact decide_eq_true rfl
        by_cases hsx : x < 18446744073709551616
        · obtain ⟨z1, z2, z3, kl⟩ := hsm hsx
          exact nbits_Cs x (x * 2 ^ j) _ _ (x * 2 ^ j) m _ _ (j : Int) k (shq x k) _ _ hx hi.symm hm hneg w hT hi0 hb.2.1 hL0 (by omega) (by omega) (by omega) z1 z2 z3 q2 q3 q1 hkk kshi (fun W => nshl x hx k W) klen ksi (knat _ hlt) ksm (knat _ hy2) kl kshr knl knt ktr (kb _) (kd _ (by omega)) (kb k) (kd k hk1)
        · obtain ⟨zz, kl⟩ := hgt hsx
          exact nbits_Cg x (x * 2 ^ j) _ _ (x * 2 ^ j) m _ _ (j : Int) k (shq x k) _ _ hx hi.symm hm hneg w hT hi0 hb.2.1 hL0 (by omega) (by omega) (by omega) zz q2 q3 q1 hkk kshi (fun W => nshl x hx k W) klen ksi (knat _ hlt) ksm (knat _ hy2) kl kshr knl knt ktr (kb _) (kd _ (by omega)) (kb k) (kd k hk1)
      · have hlt : ¬ x * 2 ^ j < 2 ^ 256 := fun h => hfit (hp.1 h)
        have hS : shz x (j : Int) = 0 ∧ shq x (j : Int) = false := by
          unfold shz shq
          rw [Int.toNat_natCast]
          exact ⟨if_neg (fun c => hlt c.2), decide_eq_false (fun c => hlt c.2)⟩
        rw [hS.1, hS.2, show N4 0 = .agg #[.int .u64 0, .int .u64 0, .int .u64 0, .int .u64 0] from by unfold N4; simp only [lb_zero]] at kshi
        have hk0' : 0 ≤ k := hb.2.2.1 (by omega)
        by_cases hsx : x < 18446744073709551616
        · obtain ⟨z1, z2, z3, kl⟩ := hsm hsx
          exact nbits_Ds x _ _ m _ _ (j : Int) k (shq x k) _ _ hx hi.symm hm hneg w hT hi0 hb.2.1 hk0' hL0 (by omega) (by omega) z1 z2 z3 q2 q3 hkk kshi (fun W => nshl x hx k W) klen ksm (knat _ hy2) kl kshr knl knt ktr (kb _) (kd _ (by omega)) (kb k) (kd k hk1)
        · obtain ⟨zz, kl⟩ := hgt hsx
          exact nbits_Dg x _ _ m _ _ (j : Int) k (shq x k) _ _ hx hi.symm hm hneg w hT hi0 hb.2.1 hk0' hL0 (by omega) (by omega) zz q2 q3 hkk kshi (fun W => nshl x hx k W) klen ksm (knat _ hy2) kl kshr knl knt ktr (kb _) (kd _ (by omega)) (kb k) (kd k hk1)
end Go.Proofs.YtngmdncidieclaaDoor
