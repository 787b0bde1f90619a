/-
  Heads of any width, tags with noughts ahead: what the bytes are, what they are read as, what is written again.
-/
import Derived.Test.YtgcfhoglcdgekaaGreatDoorCbEncR
namespace Go.Proofs.YtgcfhoglcdgekaaGreatDoor
open Go.RowKit Go.Shelf
set_option linter.unusedVariables false

theorem hsz_sinf {a N : Nat} (ha : a < 28) (h0 : a < 24 → N = a) (h1 : ¬ a < 24 → N < 256 ^ hsz a) : hsz (sinf N) ≤ hsz a := by
  by_cases h : a < 24
  · have := h0 h
    subst this
    have e : sinf N = N := by unfold sinf; rw [if_pos h]
    rw [e]
    exact Nat.le_refl _
  · have h2 := h1 h
    have e0 : ∀ {b : Nat}, b < 24 → hsz b = 0 := fun h => hsz_low h
    unfold sinf
    rcases (show a = 24 ∨ a = 25 ∨ a = 26 ∨ a = 27 by omega) with rfl | rfl | rfl | rfl
    · rw [hsz_24] at h2 ⊢
      split
      · rw [e0 (by assumption)]; omega
      · first | (rw [if_pos (by omega), hsz_24]; exact Nat.le_refl _) | (rw [hsz_24]; exact Nat.le_refl _)
    · rw [hsz_25] at h2 ⊢
      split
      · rw [e0 (by assumption)]; omega
      · split
        · rw [hsz_24]; omega
        · first | (rw [if_pos (by omega), hsz_25]; exact Nat.le_refl _) | (rw [hsz_25]; exact Nat.le_refl _)
    · rw [hsz_26] at h2 ⊢
      split
      · rw [e0 (by assumption)]; omega
      · split
        · rw [hsz_24]; omega
        · split
          · rw [hsz_25]; omega
          · first | (rw [if_pos (by omega), hsz_26]; exact Nat.le_refl _) | (rw [hsz_26]; exact Nat.le_refl _)
    · rw [hsz_27]
      split
      · rw [e0 (by assumption)]; omega
      · split
        · rw [hsz_24]; omega
        · split
          · rw [hsz_25]; omega
          · split
            · rw [hsz_26]; omega
            · rw [hsz_27]; exact Nat.le_refl _
/-- The law's bytes: a head of some width, or a tag with noughts ahead. -/
def WayH (g : Bool) (N : Nat) (l : List UInt8) : Prop := N < 18446744073709551616 ∧ (hds (if g then 1 else 0) N).length ≤ l.length ∧ 0 < l.length ∧
  ((∃ a, a < 28 ∧ (a < 24 → N = a) ∧ (¬ a < 24 → N < 256 ^ hsz a) ∧ l = hby (if g then 1 else 0) a N) ∨ ∃ t : List UInt8, t.length < 24 ∧ nb t = N ∧ l = hby 6 (if g then 3 else 2) (if g then 3 else 2) ++ (hby 2 t.length t.length ++ t))
theorem way_head (g : Bool) {N a : Nat} (ha : a < 28) (hN : N < 18446744073709551616) (h0 : a < 24 → N = a) (h1 : ¬ a < 24 → N < 256 ^ hsz a) : WayH g N (hby (if g then 1 else 0) a N) :=
  ⟨hN, by unfold hds; rw [hby_len, hby_len]; have := hsz_sinf ha h0 h1; omega, by rw [hby_len]; omega, Or.inl ⟨a, ha, h0, h1, rfl⟩⟩
theorem way_big (g : Bool) {N : Nat} {t : List UInt8} (hN : N < 18446744073709551616) (h8 : 8 ≤ t.length) (ht : t.length < 24) (hn : nb t = N) : WayH g N (hby 6 (if g then 3 else 2) (if g then 3 else 2) ++ (hby 2 t.length t.length ++ t)) :=
  ⟨hN, by rw [List.length_append, List.length_append, hby_len, hby_len]; have := hds_len (if g then 1 else 0) N; omega, by rw [List.length_append, hby_len]; omega, Or.inr ⟨t, ht, hn, rfl⟩⟩
theorem dec_way {g : Bool} {N : Nat} {l : List UInt8} (h : WayH g N l) (gg cap L : Nat) (hL : l.length = L) (w : World) (hb : BytesAt w gg 0 l) :
    Calls Tryz.prog 4 #[.slice (some ⟨gg, 0, none⟩) L cap] w fun e w' => e = .returned (.tuple #[V10 3 g (lb 0 (headI g N)) (lb 1 (headI g N)) (lb 2 (headI g N)) (lb 3 (headI g N)) 0 ⟨#[]⟩ none 0 0 none 0 0, .int .i64 0]) ∧ Below w.heap.size w w' := by
  obtain ⟨hN, _, _, ⟨a, ha, h0, h1, rfl⟩ | ⟨t, ht, rfl, rfl⟩⟩ := h
  · cases g with
    | false =>
      have hs := lb_small (v := (N : Int)) (by omega) (by omega)
      rw [Int.natAbs_natCast] at hs
      obtain ⟨e0, e1, e2, e3⟩ := hs
      rw [show headI false N = N from rfl, e0, e1, e2, e3]
      exact dec_uint a N ha hN h0 h1 gg 0 cap L hL w hb
    | true => exact dec_neg a N ha hN h0 h1 gg 0 cap L hL w hb
  · exact dec_big g t ht gg 0 cap L hL w hb
theorem enc_head (g : Bool) {N : Nat} (hN : N < 18446744073709551616) (w : World) (hT : Tb w) :
    Calls Tryz.prog 8 #[V10 3 g (lb 0 (headI g N)) (lb 1 (headI g N)) (lb 2 (headI g N)) (lb 3 (headI g N)) 0 ⟨#[]⟩ none 0 0 none 0 0] w fun e w' => ∃ gg cap, e = .returned (.tuple #[.slice (some ⟨gg, 0, none⟩) (intB g (headI g N)).length cap, .int .i64 0]) ∧ BytesAt w' gg 0 (intB g (headI g N)) ∧ Below w.heap.size w w' := by
  have hp : 0 < (intB g (headI g N)).length := by rw [intB_head g N hN]; exact hds_pos _ _
  refine (enc_ok 3 g _ _ _ _ 0 ⟨#[]⟩ none 0 0 none 0 0 (intB g (headI g N)) hp (by rw [intB_head g N hN]; have := hds_len (if g then 1 else 0) N; omega) w (fun W hW => ?_) (fun W hW => ?_)).mono ?_
  · have := vmay (leafG g (headI g N)) (by unfold leafG; rw [VT.nodes_mk]; decide) W (leafG_q g _ (headI_lt g hN) W (tb_on hT hW))
    rw [leafG_may g hN] at this
    exact this
  · exact aval_int g (headI g N) (fun hg => by subst hg; show 1 ≤ N + 1; omega) (headI_lt g hN) 0 ⟨#[]⟩ none 0 0 none 0 0 (.slice none 0 0) [] w.heap.size W hW.size (Bo.nil _ _) (by simp)
  · rintro e w' ⟨v', rfl, hB, hb⟩
    obtain ⟨gg, cap, rfl, _⟩ := hB.some hp
    exact ⟨gg, cap, rfl, bo_bytes hB, hb⟩
/-- The last k bytes of a number, with noughts ahead of eight. -/
def padZ (n k : Nat) : List UInt8 := List.replicate (k - 8) 0 ++ be n (min k 8)
theorem pad_len (n k : Nat) : (padZ n k).length = k := by unfold padZ; rw [List.length_append, List.length_replicate, be_len]; omega
theorem pad_low (n : Nat) {k : Nat} (h : k < 8) : padZ n (k + 1) = UInt8.ofNat (n / 256 ^ k) :: padZ n k := by
  unfold padZ
  rw [show k + 1 - 8 = 0 by omega, show k - 8 = 0 by omega, show min (k + 1) 8 = k + 1 by omega, show min k 8 = k by omega, be_succ]
  rfl
theorem pad_high (n : Nat) {k : Nat} (h : 8 ≤ k) : padZ n (k + 1) = 0 :: padZ n k := by
  unfold padZ
  rw [show k + 1 - 8 = (k - 8) + 1 by omega, show min (k + 1) 8 = 8 by omega, show min k 8 = 8 by omega, List.replicate_succ]
  rfl
theorem nb_zeros (j : Nat) (l : List UInt8) : nb (List.replicate j 0 ++ l) = nb l := by
  induction j with
  | zero => rfl
  | succ j ih => rw [List.replicate_succ, List.cons_append, nb_cons, ih]; simp
theorem nb_pad {n k : Nat} (hn : n < 18446744073709551616) (h : 8 ≤ k) : nb (padZ n k) = n := by
  unfold padZ
  rw [nb_zeros, show min k 8 = 8 by omega, nb_be]
  exact Nat.mod_eq_of_lt (by omega)
theorem u64_and_nat (a b : Nat) (ha : a < 18446744073709551616) (hb : b < 18446744073709551616) : bits .and .u64 (a : Int) (b : Int) = ((a &&& b : Nat) : Int) := by
  have hx : a &&& b < 2 ^ 64 := Nat.lt_of_le_of_lt Nat.and_le_left (by omega)
  show IntKind.u64.wrap ((BitVec.ofInt 64 (a : Int) &&& BitVec.ofInt 64 (b : Int)).toNat : Int) = _
  have e : (BitVec.ofInt 64 (a : Int) &&& BitVec.ofInt 64 (b : Int)).toNat = a &&& b := by
    rw [BitVec.toNat_and]
    simp only [BitVec.toNat_ofInt]
    congr 1 <;> omega
  rw [e]
  exact Go.IntWalk.u64_in _ (by omega)
theorem mask_at (n j : Nat) (hn : n < 18446744073709551616) (hj : j < 64) (M : Int) (hM : M = ((2 ^ j - 1 : Nat) : Int)) : bits .and .u64 (n : Int) M = ((n % 2 ^ j : Nat) : Int) := by
  have h2 : 2 ^ j ≤ 2 ^ 63 := Nat.pow_le_pow_right (by decide) (by omega)
  rw [hM, u64_and_nat n _ hn (by omega), Nat.and_two_pow_sub_one_eq_mod]
theorem or_zero8 {k : Nat} (hk : k < 256) : bits .or .u8 0 (k : Int) = (k : Int) := by
  have := u8_or_nat 0 k (by decide) hk
  rw [Nat.zero_or] at this
  exact this
theorem or_32 {k : Nat} (hk : k < 32) : bits .or .u8 32 (k : Int) = ((32 + k : Nat) : Int) := by
  have := or8 1 k (by decide) hk
  exact this
theorem or_64 {k : Nat} (hk : k < 32) : bits .or .u8 64 (k : Int) = ((64 + k : Nat) : Int) := by
  have := or8 2 k (by decide) hk
  exact this
theorem bo_lit1 (w : World) {v : Nat} (h : v < 256) {Z : Int} (hZ : Z = (v : Int)) : Bo (w.alloc (.cells #[.int .u8 Z] 5)) w.heap.size (.slice (some ⟨w.heap.size, 0, none⟩) 1 1) [UInt8.ofNat v] := by
  have := (show (w.alloc (.cells #[.int .u8 Z] 5)).ownsRow w.heap.size 5 1 (.slice (some ⟨w.heap.size, 0, none⟩) 1 1) 1 #[.int .u8 Z].toList from World.ownsRow_lit w #[.int .u8 Z] 1 (Nat.le_refl _) (by decide) rfl)
  unfold Bo
  rw [← u8s_one h hZ]
  exact this
theorem bo_lit2 (w : World) {v u : Nat} (hv : v < 256) (hu : u < 256) {Z Y : Int} (hZ : Z = (v : Int)) (hY : Y = (u : Int)) : Bo (w.alloc (.cells #[.int .u8 Z, .int .u8 Y] 5)) w.heap.size (.slice (some ⟨w.heap.size, 0, none⟩) 2 2) [UInt8.ofNat v, UInt8.ofNat u] := by
  have := (show (w.alloc (.cells #[.int .u8 Z, .int .u8 Y] 5)).ownsRow w.heap.size 5 1 (.slice (some ⟨w.heap.size, 0, none⟩) 2 2) 2 #[.int .u8 Z, .int .u8 Y].toList from World.ownsRow_lit w #[.int .u8 Z, .int .u8 Y] 2 (Nat.le_refl _) (by decide) rfl)
  unfold Bo
  have e : #[Value.int .u8 Z, Value.int .u8 Y].toList = U8s [UInt8.ofNat v, UInt8.ofNat u] := by
    subst hZ hY
    simp [U8s]
    omega
  rw [← e]
  exact this
theorem mod_at (z : Int) (n : Nat) (hn : 0 < n) (h12 : n ≤ 12) : ∃ k1 : Nat, k1 < n ∧ wrap64 ((IntKind.u64.wrap z).tmod (n : Int)) = (k1 : Int) := by
  have h0 : 0 ≤ IntKind.u64.wrap z := by
    have e : IntKind.u64.wrap z = z % 18446744073709551616 := by first | exact IntKind.wrap_u64' _ | rfl
    rw [e]; exact Int.emod_nonneg _ (by decide)
  rw [Int.tmod_eq_emod_of_nonneg h0]
  have h1 := Int.emod_nonneg (IntKind.u64.wrap z) (show (n : Int) ≠ 0 by omega)
  have h2 := Int.emod_lt_of_pos (IntKind.u64.wrap z) (show 0 < (n : Int) by omega)
  refine ⟨(IntKind.u64.wrap z % (n : Int)).toNat, by omega, ?_⟩
  unfold wrap64
  omega
end Go.Proofs.YtgcfhoglcdgekaaGreatDoor
