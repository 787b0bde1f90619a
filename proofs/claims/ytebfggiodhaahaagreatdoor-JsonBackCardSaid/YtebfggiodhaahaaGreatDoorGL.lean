/-
  NatFmt NatLen NatTrail NatShMath NatShr NatShl, one behind the other: a claim holds at most 60 files.
-/
import Derived.Test.YtebfggiodhaahaaGreatDoorGA
import Derived.Test.YtebfggiodhaahaaGreatDoorShelf
import Derived.Lib.ItoaWalk
import Derived.Lib.ItoaMem
import Derived.Lib.AppendIntMem
import Derived.Lib.ItoaNum
import Derived.Shelf.Spec.TrailingZeros
import Derived.Laws.BitsAllLaws
section
namespace Go.Proofs.YtebfggiodhaahaaGreatDoor
open Go.RowKit Go.Shelf Go.Sort Go.Lib

/-- The table of powers reads as it is laid. -/
abbrev Tab (w : World) : Prop := Lib.TabIs Tryz.prog w "internal/strconv.uint64pow10" .u64 Lib.pow10Tab
theorem tab_on {w w' : World} (h : Tab w) (hb : Below w.heap.size w w') : Tab w' := Lib.tabBelow_of_tabIs h w' hb

set_option maxHeartbeats 1600000 in
set_option maxRecDepth 100000 in
theorem fmt_inner (u : Nat) (hu64 : u < 18446744073709551616) (w : World) (htab : Tab w) :
    Calls Tryz.prog 146 #[.int .u64 u, .int .i64 10] w fun e w' => e = .returned (.string ⟨(Lib.decDigits u).toArray⟩) ∧ Below w.heap.size w w' := by
  by_cases hs : u < 100
  · go_enter Tryz.func146, Tryz.ntmps146
    go_wp2_with (go_at_call 179; refine (Tryz.internal_strconv_small u hs _).mono ?_; rintro e w' ⟨rfl, rfl⟩)
    go_ret
    exact ⟨rfl, Below.refl _ _⟩
  · have hu1 : 1 ≤ u := by omega
    have hnd20 : Lib.nDigits u ≤ 20 := by have := Lib.numDigits_eq u hu1 hu64; split at this <;> omega
    have hb3 : Lib.nDigits u ≤ 23 := by omega
    have hT : Tryz.prog.underlying 194 = some (.array 24 5) := by kernel_rfl
    have hsl : Tryz.prog.underlying 22 = some (.slice 5) := by kernel_rfl
    have hst : Tryz.prog.underlying 9 = some .string := by kernel_rfl
    have hu8 : Tryz.prog.underlying 5 = some (.int .u8) := by kernel_rfl
    have hal : Tryz.prog.arrayLen 194 = 24 := by simp [Program.arrayLen, hT]
    have z5 : ∀ w, (Go.sizeOf 5).run Tryz.prog w = .ok 1 w := fun _ => by kernel_rfl
    have hel : Tryz.prog.elem 194 = 5 := by simp [Program.elem, hT]
    have hsl2 : ∀ W, (Instr.sliceAt 194 (.pointer (some ⟨w.heap.size, 0, none⟩)) none (some (.int .i64 (Lib.nDigits u : Int))) none).run Tryz.prog W = .ok (.slice (some ⟨w.heap.size, 0, none⟩) (Lib.nDigits u) 24) W := fun W => by
      rw [run_sliceAt_array_h W 194 ⟨w.heap.size, 0, none⟩ (by simp [Program.arrayLen, Program.elem, hT]) .i64 (Lib.nDigits u : Int) (by omega) (by rw [hal]; omega)]
      rw [hel, z5, hal]
      simp [slicedAt, Result.andThen, Addr.add]
    have hH0 := Lib.holds_zero0 w 194 (Lib.nDigits u) (by omega)
    have hfmt := Tryz.internal_strconv_formatBase10 w.heap.size 0 24 u (Array.replicate (Lib.nDigits u) 0) (w.alloc (.cells Lib.zeros24 194)) hH0 (by rw [Array.size_replicate]; exact Lib.lt_pow_nDigits u) hu64 (by rw [Array.size_replicate]; omega)
    rw [Array.size_replicate] at hfmt
    have HH0 := Lib.hid hH0
    have HF := Lib.hid hfmt
    clear hH0 hal hT hsl hst hu8 z5 hel hfmt
    have hs' : ¬ ((u : Int) < 100) := by omega
    go_enter Tryz.func146, Tryz.ntmps146
    go_wp2_with (go_at_call 180; refine (Tryz.internal_strconv_numDigits u hu1 hu64 _ (Lib.tabIs_alloc htab _)).mono ?_; rintro e w' ⟨rfl, rfl⟩)
    go_at_call 181
    refine HF.out.mono ?_
    rintro e w' ⟨rfl, k, v', dk, rfl, hF⟩
    have hcv : (convert 22 9 (.slice (some ⟨w.heap.size, 0, none⟩) (Lib.nDigits u) 24)).run Tryz.prog ((putRow (fun (b : UInt8) => Value.int .u8 (b.toNat : Int)) (w.alloc (.cells Lib.zeros24 194)) w.heap.size 0 dk).drewN k) = .ok (.string ⟨(Lib.decDigits u).toArray⟩) ((putRow (fun (b : UInt8) => Value.int .u8 (b.toNat : Int)) (w.alloc (.cells Lib.zeros24 194)) w.heap.size 0 dk).drewN k) := by
      have h := run_convert_bytes_back (P := Tryz.prog) ((putRow (fun (b : UInt8) => Value.int .u8 (b.toNat : Int)) (w.alloc (.cells Lib.zeros24 194)) w.heap.size 0 dk).drewN k) 22 9 5 ⟨w.heap.size, 0, none⟩ 24 (Lib.decDigits u) (by kernel_rfl) (by kernel_rfl) (by kernel_rfl) (fun j hj => by
        rw [Lib.row_is_numeral hF j hj, Lib.add_plain, World.cell?_drewN]
        exact cell?_putRow (fun (b : UInt8) => Value.int .u8 (b.toNat : Int)) _ w.heap.size 0 _ dk HH0.out (by rw [hF.size, Array.size_replicate]) j (by rw [hF.size]; rw [Lib.decDigits_length] at hj; exact hj))
      rw [Lib.decDigits_length] at h
      exact h
    go_wp2
    go_ret
    obtain ⟨os, eo⟩ := Lib.fin_at w (.cells Lib.zeros24 194) dk k 0
    exact ⟨rfl, by rw [eo]; exact Lib.below_grow _ _ (Nat.le_refl _) _ _⟩

/-- strconv.FormatUint at base 10. -/
theorem fmt_any (u : Nat) (hu64 : u < 18446744073709551616) (w : World) (htab : Tab w) :
    Calls Tryz.prog 102 #[.int .u64 u, .int .i64 10] w fun e w' => e = .returned (.string ⟨(Lib.decDigits u).toArray⟩) ∧ Below w.heap.size w w' := by
  have H := Lib.hid (fmt_inner u hu64 w htab)
  go_enter Tryz.func102, Tryz.ntmps102
  go_wp2_with (go_at_call 146; refine H.out.mono ?_; rintro e w' ⟨rfl, hb⟩)
  go_ret
  exact ⟨rfl, hb⟩

end Go.Proofs.YtebfggiodhaahaaGreatDoor
end
section
namespace Go.Proofs.YtebfggiodhaahaaGreatDoor
open Go.RowKit Go.Shelf

theorem limb_at0 (a0 a1 a2 a3 : Int) (w : World) : Calls Tryz.prog 153 #[.agg #[.int .u64 a0, .int .u64 a1, .int .u64 a2, .int .u64 a3], .int .i64 0] w fun e w' => e = .returned (.int .u64 a0) ∧ ∃ o : Obj, w' = w.alloc o := by
  go_enter Tryz.func153, Tryz.ntmps153
  go_wp2
  go_ret
  exact ⟨rfl, _, rfl⟩
theorem limb_at1 (a0 a1 a2 a3 : Int) (w : World) : Calls Tryz.prog 153 #[.agg #[.int .u64 a0, .int .u64 a1, .int .u64 a2, .int .u64 a3], .int .i64 1] w fun e w' => e = .returned (.int .u64 a1) ∧ ∃ o : Obj, w' = w.alloc o := by
  go_enter Tryz.func153, Tryz.ntmps153
  go_wp2
  go_ret
  exact ⟨rfl, _, rfl⟩
theorem limb_at2 (a0 a1 a2 a3 : Int) (w : World) : Calls Tryz.prog 153 #[.agg #[.int .u64 a0, .int .u64 a1, .int .u64 a2, .int .u64 a3], .int .i64 2] w fun e w' => e = .returned (.int .u64 a2) ∧ ∃ o : Obj, w' = w.alloc o := by
  go_enter Tryz.func153, Tryz.ntmps153
  go_wp2
  go_ret
  exact ⟨rfl, _, rfl⟩
theorem limb_at3 (a0 a1 a2 a3 : Int) (w : World) : Calls Tryz.prog 153 #[.agg #[.int .u64 a0, .int .u64 a1, .int .u64 a2, .int .u64 a3], .int .i64 3] w fun e w' => e = .returned (.int .u64 a3) ∧ ∃ o : Obj, w' = w.alloc o := by
  go_enter Tryz.func153, Tryz.ntmps153
  go_wp2
  go_ret
  exact ⟨rfl, _, rfl⟩
theorem limb_none (a0 a1 a2 a3 i : Int) (h : i < 0 ∨ 4 ≤ i) (w : World) : Calls Tryz.prog 153 #[.agg #[.int .u64 a0, .int .u64 a1, .int .u64 a2, .int .u64 a3], .int .i64 i] w fun e w' => e = .returned (.int .u64 0) ∧ ∃ o : Obj, w' = w.alloc o := by
  rcases h with h | h
  · go_enter Tryz.func153, Tryz.ntmps153
    go_wp2
    go_ret
    exact ⟨rfl, _, rfl⟩
  · have h' : ¬ i < 0 := by omega
    go_enter Tryz.func153, Tryz.ntmps153
    go_wp2
    go_ret
    exact ⟨rfl, _, rfl⟩
/-- The limb at a place; 0 beyond. -/
def limb (x : Nat) (i : Int) : Int := if i < 0 then 0 else lb i.toNat x
theorem limb_one (x : Nat) (hx : x < 2 ^ 256) (i : Int) (w : World) : Calls Tryz.prog 153 #[N4 x, .int .i64 i] w fun e w' => e = .returned (.int .u64 (limb x i)) ∧ ∃ o : Obj, w' = w.alloc o := by
  by_cases h : i < 0
  · have : limb x i = 0 := by unfold limb; rw [if_pos h]
    rw [this]; exact limb_none _ _ _ _ _ (.inl h) w
  · by_cases h4 : 4 ≤ i
    · have : limb x i = 0 := by
        unfold limb lb; rw [if_neg h]
        have : 2 ^ 256 ≤ 2 ^ (64 * i.toNat) := Nat.pow_le_pow_right (by omega) (by omega)
        rw [Nat.div_eq_of_lt (by omega)]; rfl
      rw [this]; exact limb_none _ _ _ _ _ (.inr h4) w
    · have : i = 0 ∨ i = 1 ∨ i = 2 ∨ i = 3 := by omega
      rcases this with rfl | rfl | rfl | rfl
      · exact limb_at0 _ _ _ _ w
      · exact limb_at1 _ _ _ _ w
      · exact limb_at2 _ _ _ _ w
      · exact limb_at3 _ _ _ _ w

attribute [local go_sem ↓] eql_nat neq_nat
set_option maxRecDepth 100000 in
theorem low_core (a0 a1 a2 a3 : Int) (hq : eq4 a0 a1 a2 a3 a0 0 0 0 = true) (w : World) : Calls Tryz.prog 140 #[.agg #[.int .u64 a0, .int .u64 a1, .int .u64 a2, .int .u64 a3]] w fun e w' => e = .returned (.tuple #[.int .u64 a0, .bool true]) ∧ Below w.heap.size w w' := by
  go_enter Tryz.func140, Tryz.ntmps140
  go_wp2
  go_region_held3 (fun w' => w'.cell? ⟨w.heap.size, 0, none⟩ = some (.int .u64 a0) ∧ w'.cell? ⟨w.heap.size, 1, none⟩ = some (.int .u64 a1) ∧ w'.cell? ⟨w.heap.size, 2, none⟩ = some (.int .u64 a2) ∧ w'.cell? ⟨w.heap.size, 3, none⟩ = some (.int .u64 a3)) (first | (simp [go_sem]; done) | (simp [hc]; done)) (first | (go_at_call 107; refine (of_any _ _).mono ?_; rintro e w1 ⟨rfl, hb⟩; obtain ⟨hc, hf⟩ := bcell hb))
  go_wp2
  go_ret2
  refine ⟨rfl, btr ?_ hb⟩
  repeat (first | exact Below.refl _ _ | refine bal ?_ _ | refine Below.drew ?_ | refine bdn ?_ _)
set_option maxRecDepth 100000 in
theorem low_none (a0 a1 a2 a3 : Int) (hq : eq4 a0 a1 a2 a3 a0 0 0 0 = false) (w : World) : Calls Tryz.prog 140 #[.agg #[.int .u64 a0, .int .u64 a1, .int .u64 a2, .int .u64 a3]] w fun e w' => e = .returned (.tuple #[.int .u64 0, .bool false]) ∧ Below w.heap.size w w' := by
  go_enter Tryz.func140, Tryz.ntmps140
  go_wp2
  go_region_held3 (fun w' => w'.cell? ⟨w.heap.size, 0, none⟩ = some (.int .u64 a0) ∧ w'.cell? ⟨w.heap.size, 1, none⟩ = some (.int .u64 a1) ∧ w'.cell? ⟨w.heap.size, 2, none⟩ = some (.int .u64 a2) ∧ w'.cell? ⟨w.heap.size, 3, none⟩ = some (.int .u64 a3)) (first | (simp [go_sem]; done) | (simp [hc]; done)) (first | (go_at_call 107; refine (of_any _ _).mono ?_; rintro e w1 ⟨rfl, hb⟩; obtain ⟨hc, hf⟩ := bcell hb))
  go_wp2
  go_ret2
  refine ⟨rfl, btr ?_ hb⟩
  repeat (first | exact Below.refl _ _ | refine bal ?_ _ | refine Below.drew ?_ | refine bdn ?_ _)


/-- nat.Low. -/
theorem low_any (x : Nat) (hx : x < 2 ^ 256) (w : World) : Calls Tryz.prog 140 #[N4 x] w fun e w' => e = .returned (.tuple (if x < 18446744073709551616 then #[.int .u64 x, .bool true] else #[.int .u64 0, .bool false])) ∧ Below w.heap.size w w' := by
  have e := eq4_of x (x % 18446744073709551616) hx (by omega)
  rw [show ((x % 18446744073709551616 : Nat) : Int) = lb 0 x from by rw [lb0]; omega] at e
  by_cases h : x < 18446744073709551616
  · rw [if_pos h, show (x : Int) = lb 0 x from by rw [lb0]; omega]
    exact low_core _ _ _ _ (by rw [e]; simp; omega) w
  · rw [if_neg h]
    exact low_none _ _ _ _ (by rw [e]; simp; omega) w

theorem len_at3 (a0 a1 a2 a3 : Int) (hne : (a3 != 0) = true) (h0 : 0 ≤ a3) (h1 : a3 ≤ 18446744073709551615) (w : World) : Calls Tryz.prog 143 #[.agg #[.int .u64 a0, .int .u64 a1, .int .u64 a2, .int .u64 a3]] w fun e w' => e = .returned (.int .i64 (192 + (Lib.bitLen a3.toNat : Int))) ∧ ∃ o : Obj, w' = w.alloc o := by
  have hl : Lib.bitLen a3.toNat ≤ 64 := by
    exact Lib.bitLen_le _ 64 (by omega) (by omega)
  go_enter Tryz.func143, Tryz.ntmps143
  go_wp2
  refine wp_loop_rounds 5 ?_
  rw [rounds_succ]
  go_wp2_with (go_at_call 177; refine (Tryz.bits_Len64 a3 _ h0 h1).mono ?_; rintro e w' ⟨rfl, rfl⟩)
  go_ret
  exact ⟨rfl, _, rfl⟩
theorem len_at2 (a0 a1 a2 : Int) (hne : (a2 != 0) = true) (h0 : 0 ≤ a2) (h1 : a2 ≤ 18446744073709551615) (w : World) : Calls Tryz.prog 143 #[.agg #[.int .u64 a0, .int .u64 a1, .int .u64 a2, .int .u64 0]] w fun e w' => e = .returned (.int .i64 (128 + (Lib.bitLen a2.toNat : Int))) ∧ ∃ o : Obj, w' = w.alloc o := by
  have hl : Lib.bitLen a2.toNat ≤ 64 := by
    exact Lib.bitLen_le _ 64 (by omega) (by omega)
  go_enter Tryz.func143, Tryz.ntmps143
  go_wp2
  refine wp_loop_rounds 5 ?_
  rw [rounds_succ]
  go_wp2
  rw [rounds_succ]
  go_wp2_with (go_at_call 177; refine (Tryz.bits_Len64 a2 _ h0 h1).mono ?_; rintro e w' ⟨rfl, rfl⟩)
  go_ret
  exact ⟨rfl, _, rfl⟩
theorem len_at1 (a0 a1 : Int) (hne : (a1 != 0) = true) (h0 : 0 ≤ a1) (h1 : a1 ≤ 18446744073709551615) (w : World) : Calls Tryz.prog 143 #[.agg #[.int .u64 a0, .int .u64 a1, .int .u64 0, .int .u64 0]] w fun e w' => e = .returned (.int .i64 (64 + (Lib.bitLen a1.toNat : Int))) ∧ ∃ o : Obj, w' = w.alloc o := by
  have hl : Lib.bitLen a1.toNat ≤ 64 := by
    exact Lib.bitLen_le _ 64 (by omega) (by omega)
  go_enter Tryz.func143, Tryz.ntmps143
  go_wp2
  refine wp_loop_rounds 5 ?_
  rw [rounds_succ]
  go_wp2
  rw [rounds_succ]
  go_wp2
  rw [rounds_succ]
  go_wp2_with (go_at_call 177; refine (Tryz.bits_Len64 a1 _ h0 h1).mono ?_; rintro e w' ⟨rfl, rfl⟩)
  go_ret
  exact ⟨rfl, _, rfl⟩
theorem len_at0 (a0 : Int) (hne : (a0 != 0) = true) (h0 : 0 ≤ a0) (h1 : a0 ≤ 18446744073709551615) (w : World) : Calls Tryz.prog 143 #[.agg #[.int .u64 a0, .int .u64 0, .int .u64 0, .int .u64 0]] w fun e w' => e = .returned (.int .i64 ((Lib.bitLen a0.toNat : Int))) ∧ ∃ o : Obj, w' = w.alloc o := by
  have hl : Lib.bitLen a0.toNat ≤ 64 := by
    exact Lib.bitLen_le _ 64 (by omega) (by omega)
  go_enter Tryz.func143, Tryz.ntmps143
  go_wp2
  refine wp_loop_rounds 5 ?_
  rw [rounds_succ]
  go_wp2
  rw [rounds_succ]
  go_wp2
  rw [rounds_succ]
  go_wp2
  rw [rounds_succ]
  go_wp2_with (go_at_call 177; refine (Tryz.bits_Len64 a0 _ h0 h1).mono ?_; rintro e w' ⟨rfl, rfl⟩)
  go_ret
  exact ⟨rfl, _, rfl⟩
theorem len_atnone (w : World) : Calls Tryz.prog 143 #[.agg #[.int .u64 0, .int .u64 0, .int .u64 0, .int .u64 0]] w fun e w' => e = .returned (.int .i64 (0)) ∧ ∃ o : Obj, w' = w.alloc o := by
  go_enter Tryz.func143, Tryz.ntmps143
  go_wp2
  refine wp_loop_rounds 5 ?_
  rw [rounds_succ]
  go_wp2
  rw [rounds_succ]
  go_wp2
  rw [rounds_succ]
  go_wp2
  rw [rounds_succ]
  go_wp2
  rw [rounds_succ]
  go_wp2
  go_ret
  exact ⟨rfl, _, rfl⟩

/-- How many bits a number has. -/
def blen (x : Nat) : Nat := if x = 0 then 0 else Nat.log2 x + 1
theorem blen_unique {x L : Nat} (h1 : 1 ≤ L) (h2 : 2 ^ (L - 1) ≤ x) (h3 : x < 2 ^ L) : blen x = L := by
  have hx : x ≠ 0 := by have := Nat.two_pow_pos (L - 1); omega
  unfold blen
  rw [if_neg hx]
  have a := (Nat.le_log2 hx).2 h2
  have b := (Nat.log2_lt hx).2 h3
  omega
theorem blen_spec {x : Nat} (hx : x ≠ 0) : 1 ≤ blen x ∧ 2 ^ (blen x - 1) ≤ x ∧ x < 2 ^ blen x := by
  unfold blen
  rw [if_neg hx]
  exact ⟨by omega, Nat.log2_self_le hx, Nat.lt_log2_self⟩
theorem blen_le {x k : Nat} (h : x < 2 ^ k) : blen x ≤ k := by
  by_cases hx : x = 0
  · subst hx; simp [blen]
  · obtain ⟨h1, h2, h3⟩ := blen_spec hx
    have := (Nat.pow_lt_pow_iff_right (a := 2) (by omega)).1 (Nat.lt_of_le_of_lt h2 h)
    omega
theorem bitLen_blen {a : Nat} (h : a < 18446744073709551616) : Lib.bitLen a = blen a := by
  by_cases ha : a = 0
  · subst ha; simp [blen, Lib.bitLen, Lib.bitLenAux]
  · obtain ⟨h1, h2, h3⟩ := Lib.bitLenAux_bounds 64 a h ha
    exact (blen_unique h1 h2 h3).symm
theorem blen_high {hi lo k : Nat} (hh : hi ≠ 0) (hl : lo < 2 ^ k) : blen (lo + 2 ^ k * hi) = k + blen hi := by
  obtain ⟨h1, h2, h3⟩ := blen_spec hh
  apply blen_unique (by omega)
  · rw [show k + blen hi - 1 = k + (blen hi - 1) from by omega, Nat.pow_add]
    have := Nat.mul_le_mul_left (2 ^ k) h2
    omega
  · rw [Nat.pow_add]
    have : 2 ^ k * (hi + 1) ≤ 2 ^ k * 2 ^ blen hi := Nat.mul_le_mul_left _ h3
    rw [Nat.mul_add, Nat.mul_one] at this
    omega
/-- nat.Len. -/
theorem len_one (x : Nat) (hx : x < 2 ^ 256) (w : World) : Calls Tryz.prog 143 #[N4 x] w fun e w' => e = .returned (.int .i64 (blen x)) ∧ ∃ o : Obj, w' = w.alloc o := by
  have X := lb_sum x hx
  have x0 := lb_word 0 x; have x1 := lb_word 1 x; have x2 := lb_word 2 x; have x3 := lb_word 3 x
  unfold N4
  generalize lb 0 x = a0 at *; generalize lb 1 x = a1 at *; generalize lb 2 x = a2 at *; generalize lb 3 x = a3 at *
  unfold Word at *
  obtain ⟨a0, rfl⟩ := Int.eq_ofNat_of_zero_le x0.1
  obtain ⟨a1, rfl⟩ := Int.eq_ofNat_of_zero_le x1.1
  obtain ⟨a2, rfl⟩ := Int.eq_ofNat_of_zero_le x2.1
  obtain ⟨a3, rfl⟩ := Int.eq_ofNat_of_zero_le x3.1
  unfold val4 at X
  by_cases h3 : a3 = 0
  · subst h3
    by_cases h2 : a2 = 0
    · subst h2
      by_cases h1 : a1 = 0
      · subst h1
        by_cases h0 : a0 = 0
        · subst h0
          refine (len_atnone w).mono ?_
          rintro e w' ⟨rfl, hb⟩
          obtain rfl : x = 0 := by omega
          exact ⟨rfl, hb⟩
        · refine (len_at0 a0 (by simpa using h0) x0.1 (by omega) w).mono ?_
          rintro e w' ⟨rfl, hb⟩
          refine ⟨?_, hb⟩
          obtain rfl : x = a0 := by omega
          rw [Int.toNat_natCast, bitLen_blen (by omega)]
      · refine (len_at1 a0 a1 (by simpa using h1) x1.1 (by omega) w).mono ?_
        rintro e w' ⟨rfl, hb⟩
        refine ⟨?_, hb⟩
        obtain rfl : x = a0 + 2 ^ 64 * a1 := by omega
        rw [Int.toNat_natCast, bitLen_blen (by omega), blen_high (k := 64) h1 (by omega)]; rfl
    · refine (len_at2 a0 a1 a2 (by simpa using h2) x2.1 (by omega) w).mono ?_
      rintro e w' ⟨rfl, hb⟩
      refine ⟨?_, hb⟩
      obtain rfl : x = (a0 + 2 ^ 64 * a1) + 2 ^ 128 * a2 := by omega
      rw [Int.toNat_natCast, bitLen_blen (by omega), blen_high (k := 128) h2 (by omega)]; rfl
  · refine (len_at3 a0 a1 a2 a3 (by simpa using h3) x3.1 (by omega) w).mono ?_
    rintro e w' ⟨rfl, hb⟩
    refine ⟨?_, hb⟩
    obtain rfl : x = (a0 + 2 ^ 64 * a1 + 2 ^ 128 * a2) + 2 ^ 192 * a3 := by omega
    rw [Int.toNat_natCast, bitLen_blen (by omega), blen_high (k := 192) h3 (by omega)]; rfl
theorem len_any (x : Nat) (hx : x < 2 ^ 256) (w : World) : Calls Tryz.prog 143 #[N4 x] w fun e w' => e = .returned (.int .i64 (blen x)) ∧ Below w.heap.size w w' := by
  refine (len_one x hx w).mono ?_
  rintro e w' ⟨rfl, o, rfl⟩
  exact ⟨rfl, bal (Below.refl _ _) _⟩

end Go.Proofs.YtebfggiodhaahaaGreatDoor
end
section
namespace Go.Proofs.YtebfggiodhaahaaGreatDoor
open Go.RowKit Go.Shelf
attribute [local go_sem ↓] eql_nat neq_nat

def Tryz.tzRen : Ren := ⟨fun | 29 => 152 | n => n, fun | 0 => 0 | 3 => 3 | 4 => 4 | 5 => 5 | 22 => 24 | 25 => 136 | 54 => 200 | n => n, fun | 1 => 3 | n => n⟩
theorem Tryz.lays29 : Lays7.n29 Tryz.prog Tryz.tzRen := { mixed := by kernel_rfl, f29 := by kernel_rfl, t0 := by kernel_rfl, a0 := fun _ => by kernel_rfl, z0 := fun _ => by kernel_rfl, v0 := fun _ => by kernel_rfl, i0 := by kernel_rfl, t3 := by kernel_rfl, a3 := fun _ => by kernel_rfl, z3 := fun _ => by kernel_rfl, v3 := fun _ => by kernel_rfl, i3 := by kernel_rfl, t4 := by kernel_rfl, a4 := fun _ => by kernel_rfl, z4 := fun _ => by kernel_rfl, v4 := fun _ => by kernel_rfl, i4 := by kernel_rfl, t5 := by kernel_rfl, a5 := fun _ => by kernel_rfl, z5 := fun _ => by kernel_rfl, v5 := fun _ => by kernel_rfl, i5 := by kernel_rfl, t22 := by kernel_rfl, a22 := fun _ => by kernel_rfl, z22 := fun _ => by kernel_rfl, v22 := fun _ => by kernel_rfl, i22 := by kernel_rfl, t25 := by kernel_rfl, a25 := fun _ => by kernel_rfl, z25 := fun _ => by kernel_rfl, v25 := fun _ => by kernel_rfl, i25 := by kernel_rfl, t54 := by kernel_rfl, a54 := fun _ => by kernel_rfl, z54 := fun _ => by kernel_rfl, g1 := by kernel_rfl }

/-- The table of bits reads as it is laid. -/
abbrev Tb (w : World) : Prop := Lib.TabIs Tryz.prog w "math/bits.deBruijn64tab" .u8 (Lib.deBruijn64tab.map Int.ofNat)
theorem tb_on {w w' : World} (h : Tb w) (hb : Below w.heap.size w w') : Tb w' := Lib.tabBelow_of_tabIs h w' hb
theorem tb_at {w : World} (h : Tb w) : TabAt (Tryz.tzRen.g 1) Lib.deBruijn64tab w := by
  intro j hj
  have := Lib.TabIs.cell (g := 3) h (by kernel_rfl) j (by simpa using hj)
  refine this.trans ?_
  congr 2
  rw [List.getD_eq_getElem?_getD, List.getD_eq_getElem?_getD, List.getElem?_map]
  cases Lib.deBruijn64tab[j]? <;> rfl
theorem tz_any (x : Nat) (hx : x < 18446744073709551616) (w : World) (hT : Tb w) :
    Calls Tryz.prog 152 #[.int .u64 x] w fun e w' => e = .returned (.int .i64 (Lib.ctz 64 x)) ∧ w' = w :=
  Any7.bits_TrailingZeros64 Tryz.lays29 x hx w (fun _ => tb_at hT)

/-- Both tables. -/
def Tabs (w : World) : Prop := Tab w ∧ Tb w
theorem tabs_on {w w' : World} (h : Tabs w) (hb : Below w.heap.size w w') : Tabs w' := ⟨tab_on h.1 hb, tb_on h.2 hb⟩

/-- How many noughts stand at the end (256 of 0). -/
def tz (x : Nat) : Nat := if x = 0 then 256 else Lib.ctzFrom 256 x
theorem tz_spec {x : Nat} (hx : x ≠ 0) (h : x < 2 ^ 256) : (∃ m, x = 2 ^ tz x * (2 * m + 1)) ∧ tz x < 256 := by
  unfold tz
  rw [if_neg hx]
  obtain ⟨m, h1, h2⟩ := Lib.ctzFrom_spec 256 x (by omega) h
  exact ⟨⟨m, h1⟩, h2⟩
theorem odd_unique : ∀ (a b m n : Nat), 2 ^ a * (2 * m + 1) = 2 ^ b * (2 * n + 1) → a = b := by
  intro a
  induction a with
  | zero =>
    intro b m n h
    cases b with
    | zero => rfl
    | succ b => rw [Nat.pow_succ, Nat.mul_comm (2 ^ b) 2, Nat.mul_assoc] at h; omega
  | succ a ih =>
    intro b m n h
    cases b with
    | zero => rw [Nat.pow_succ, Nat.mul_comm (2 ^ a) 2, Nat.mul_assoc] at h; omega
    | succ b =>
      rw [Nat.pow_succ, Nat.pow_succ, Nat.mul_comm (2 ^ a) 2, Nat.mul_comm (2 ^ b) 2, Nat.mul_assoc, Nat.mul_assoc] at h
      rw [ih b m n (by omega)]
theorem tz_unique {x k m : Nat} (h : x < 2 ^ 256) (e : x = 2 ^ k * (2 * m + 1)) : tz x = k := by
  have hx : x ≠ 0 := by
    intro h0
    have : 0 < 2 ^ k * (2 * m + 1) := Nat.mul_pos (Nat.two_pow_pos k) (by omega)
    omega
  obtain ⟨⟨n, hn⟩, _⟩ := tz_spec hx h
  exact odd_unique _ _ n m (by rw [← hn, ← e])
theorem ctz_word {a : Nat} (h0 : a ≠ 0) (h : a < 18446744073709551616) : ∃ m, a = 2 ^ Lib.ctz 64 a * (2 * m + 1) ∧ Lib.ctz 64 a < 64 := by
  unfold Lib.ctz
  rw [if_neg h0]
  exact Lib.ctzFrom_spec 64 a (by omega) h
/-- Words above the lowest that is not 0 turn nothing. -/
theorem tz_limb {x a j hi : Nat} (h : x < 2 ^ 256) (h0 : a ≠ 0) (ha : a < 18446744073709551616) (e : x = 2 ^ (64 * j) * (a + 18446744073709551616 * hi)) : tz x = 64 * j + Lib.ctz 64 a := by
  obtain ⟨m, hm, hk⟩ := ctz_word h0 ha
  refine tz_unique (m := m + 2 ^ (63 - Lib.ctz 64 a) * hi) h ?_
  have e2 : (18446744073709551616 : Nat) = 2 ^ Lib.ctz 64 a * (2 * 2 ^ (63 - Lib.ctz 64 a)) := by
    rw [← Nat.mul_assoc, Nat.mul_comm _ 2, Nat.mul_assoc, ← Nat.pow_add, show Lib.ctz 64 a + (63 - Lib.ctz 64 a) = 63 from by omega]
  rw [e, Nat.pow_add, Nat.mul_assoc]
  congr 1
  have e3 : 2 * (m + 2 ^ (63 - Lib.ctz 64 a) * hi) + 1 = (2 * m + 1) + 2 * 2 ^ (63 - Lib.ctz 64 a) * hi := by
    rw [Nat.mul_add, ← Nat.mul_assoc]; omega
  rw [e3, Nat.mul_add, ← hm, ← Nat.mul_assoc, ← e2]

set_option maxRecDepth 100000 in
theorem trail_at0 (a0 a1 a2 a3 : Int) (t : Nat) (hne : (a0 != 0) = true) (ht : t ≤ 64)
    (hc : ∀ W, Tb W → Calls Tryz.prog 152 #[.int .u64 a0] W fun e w' => e = .returned (.int .i64 (t : Int)) ∧ w' = W) (w : World) (hT : Tb w) :
    Calls Tryz.prog 144 #[.agg #[.int .u64 a0, .int .u64 a1, .int .u64 a2, .int .u64 a3]] w fun e w' => e = .returned (.int .i64 (t : Int)) ∧ ∃ o : Obj, w' = w.alloc o := by
  have HT := Lib.hid hT; clear hT
  have HC := Lib.hid hc; clear hc
  have j0 : ∀ W, (Instr.index 26 (.agg #[.int .u64 a0, .int .u64 a1, .int .u64 a2, .int .u64 a3]) (.int .i64 0)).run Tryz.prog W = .ok (.int .u64 a0) W := fun _ => by kernel_rfl
  go_enter Tryz.func144, Tryz.ntmps144
  go_wp2
  refine wp_loop_rounds 5 ?_
  rw [rounds_succ]
  go_wp2_with fail
  refine (HC.out _ (tb_on HT.out (bal (Below.refl _ _) _))).mono ?_
  rintro e w' ⟨rfl, rfl⟩
  go_wp2
  go_ret
  exact ⟨rfl, _, rfl⟩

set_option maxRecDepth 100000 in
theorem trail_at1 (a1 a2 a3 : Int) (t : Nat) (hne : (a1 != 0) = true) (ht : t ≤ 64)
    (hc : ∀ W, Tb W → Calls Tryz.prog 152 #[.int .u64 a1] W fun e w' => e = .returned (.int .i64 (t : Int)) ∧ w' = W) (w : World) (hT : Tb w) :
    Calls Tryz.prog 144 #[.agg #[.int .u64 0, .int .u64 a1, .int .u64 a2, .int .u64 a3]] w fun e w' => e = .returned (.int .i64 (64 + (t : Int))) ∧ ∃ o : Obj, w' = w.alloc o := by
  have HT := Lib.hid hT; clear hT
  have HC := Lib.hid hc; clear hc
  have j0 : ∀ W, (Instr.index 26 (.agg #[.int .u64 0, .int .u64 a1, .int .u64 a2, .int .u64 a3]) (.int .i64 0)).run Tryz.prog W = .ok (.int .u64 0) W := fun _ => by kernel_rfl
  have j1 : ∀ W, (Instr.index 26 (.agg #[.int .u64 0, .int .u64 a1, .int .u64 a2, .int .u64 a3]) (.int .i64 1)).run Tryz.prog W = .ok (.int .u64 a1) W := fun _ => by kernel_rfl
  go_enter Tryz.func144, Tryz.ntmps144
  go_wp2
  refine wp_loop_rounds 5 ?_
  rw [rounds_succ]
  go_wp2
  rw [rounds_succ]
  go_wp2_with fail
  refine (HC.out _ (tb_on HT.out (bal (Below.refl _ _) _))).mono ?_
  rintro e w' ⟨rfl, rfl⟩
  go_wp2
  go_ret
  exact ⟨rfl, _, rfl⟩

set_option maxRecDepth 100000 in
theorem trail_at2 (a2 a3 : Int) (t : Nat) (hne : (a2 != 0) = true) (ht : t ≤ 64)
    (hc : ∀ W, Tb W → Calls Tryz.prog 152 #[.int .u64 a2] W fun e w' => e = .returned (.int .i64 (t : Int)) ∧ w' = W) (w : World) (hT : Tb w) :
    Calls Tryz.prog 144 #[.agg #[.int .u64 0, .int .u64 0, .int .u64 a2, .int .u64 a3]] w fun e w' => e = .returned (.int .i64 (128 + (t : Int))) ∧ ∃ o : Obj, w' = w.alloc o := by
  have HT := Lib.hid hT; clear hT
  have HC := Lib.hid hc; clear hc
  have j0 : ∀ W, (Instr.index 26 (.agg #[.int .u64 0, .int .u64 0, .int .u64 a2, .int .u64 a3]) (.int .i64 0)).run Tryz.prog W = .ok (.int .u64 0) W := fun _ => by kernel_rfl
  have j1 : ∀ W, (Instr.index 26 (.agg #[.int .u64 0, .int .u64 0, .int .u64 a2, .int .u64 a3]) (.int .i64 1)).run Tryz.prog W = .ok (.int .u64 0) W := fun _ => by kernel_rfl
  have j2 : ∀ W, (Instr.index 26 (.agg #[.int .u64 0, .int .u64 0, .int .u64 a2, .int .u64 a3]) (.int .i64 2)).run Tryz.prog W = .ok (.int .u64 a2) W := fun _ => by kernel_rfl
  go_enter Tryz.func144, Tryz.ntmps144
  go_wp2
  refine wp_loop_rounds 5 ?_
  rw [rounds_succ]
  go_wp2
  rw [rounds_succ]
  go_wp2
  rw [rounds_succ]
  go_wp2_with fail
  refine (HC.out _ (tb_on HT.out (bal (Below.refl _ _) _))).mono ?_
  rintro e w' ⟨rfl, rfl⟩
  go_wp2
  go_ret
  exact ⟨rfl, _, rfl⟩

set_option maxRecDepth 100000 in
theorem trail_at3 (a3 : Int) (t : Nat) (hne : (a3 != 0) = true) (ht : t ≤ 64)
    (hc : ∀ W, Tb W → Calls Tryz.prog 152 #[.int .u64 a3] W fun e w' => e = .returned (.int .i64 (t : Int)) ∧ w' = W) (w : World) (hT : Tb w) :
    Calls Tryz.prog 144 #[.agg #[.int .u64 0, .int .u64 0, .int .u64 0, .int .u64 a3]] w fun e w' => e = .returned (.int .i64 (192 + (t : Int))) ∧ ∃ o : Obj, w' = w.alloc o := by
  have HT := Lib.hid hT; clear hT
  have HC := Lib.hid hc; clear hc
  have j0 : ∀ W, (Instr.index 26 (.agg #[.int .u64 0, .int .u64 0, .int .u64 0, .int .u64 a3]) (.int .i64 0)).run Tryz.prog W = .ok (.int .u64 0) W := fun _ => by kernel_rfl
  have j1 : ∀ W, (Instr.index 26 (.agg #[.int .u64 0, .int .u64 0, .int .u64 0, .int .u64 a3]) (.int .i64 1)).run Tryz.prog W = .ok (.int .u64 0) W := fun _ => by kernel_rfl
  have j2 : ∀ W, (Instr.index 26 (.agg #[.int .u64 0, .int .u64 0, .int .u64 0, .int .u64 a3]) (.int .i64 2)).run Tryz.prog W = .ok (.int .u64 0) W := fun _ => by kernel_rfl
  have j3 : ∀ W, (Instr.index 26 (.agg #[.int .u64 0, .int .u64 0, .int .u64 0, .int .u64 a3]) (.int .i64 3)).run Tryz.prog W = .ok (.int .u64 a3) W := fun _ => by kernel_rfl
  go_enter Tryz.func144, Tryz.ntmps144
  go_wp2
  refine wp_loop_rounds 5 ?_
  rw [rounds_succ]
  go_wp2
  rw [rounds_succ]
  go_wp2
  rw [rounds_succ]
  go_wp2
  rw [rounds_succ]
  go_wp2_with fail
  refine (HC.out _ (tb_on HT.out (bal (Below.refl _ _) _))).mono ?_
  rintro e w' ⟨rfl, rfl⟩
  go_wp2
  go_ret
  exact ⟨rfl, _, rfl⟩

theorem trail_none (w : World) : Calls Tryz.prog 144 #[.agg #[.int .u64 0, .int .u64 0, .int .u64 0, .int .u64 0]] w fun e w' => e = .returned (.int .i64 256) ∧ ∃ o : Obj, w' = w.alloc o := by
  have j0 : ∀ W, (Instr.index 26 (.agg #[.int .u64 0, .int .u64 0, .int .u64 0, .int .u64 0]) (.int .i64 0)).run Tryz.prog W = .ok (.int .u64 0) W := fun _ => by kernel_rfl
  have j1 : ∀ W, (Instr.index 26 (.agg #[.int .u64 0, .int .u64 0, .int .u64 0, .int .u64 0]) (.int .i64 1)).run Tryz.prog W = .ok (.int .u64 0) W := fun _ => by kernel_rfl
  have j2 : ∀ W, (Instr.index 26 (.agg #[.int .u64 0, .int .u64 0, .int .u64 0, .int .u64 0]) (.int .i64 2)).run Tryz.prog W = .ok (.int .u64 0) W := fun _ => by kernel_rfl
  have j3 : ∀ W, (Instr.index 26 (.agg #[.int .u64 0, .int .u64 0, .int .u64 0, .int .u64 0]) (.int .i64 3)).run Tryz.prog W = .ok (.int .u64 0) W := fun _ => by kernel_rfl
  go_enter Tryz.func144, Tryz.ntmps144
  go_wp2
  refine wp_loop_rounds 5 ?_
  rw [rounds_succ]
  go_wp2
  rw [rounds_succ]
  go_wp2
  rw [rounds_succ]
  go_wp2
  rw [rounds_succ]
  go_wp2
  rw [rounds_succ]
  go_wp2
  go_ret
  exact ⟨rfl, _, rfl⟩
theorem ctz_le {a : Nat} (h : a < 18446744073709551616) : Lib.ctz 64 a ≤ 64 := by
  by_cases h0 : a = 0
  · subst h0; simp [Lib.ctz]
  · obtain ⟨m, _, hk⟩ := ctz_word h0 h; omega
theorem trail_one (x : Nat) (hx : x < 2 ^ 256) (w : World) (hT : Tb w) : Calls Tryz.prog 144 #[N4 x] w fun e w' => e = .returned (.int .i64 (tz x)) ∧ ∃ o : Obj, w' = w.alloc o := by
  have X := lb_sum x hx
  have x0 := lb_word 0 x; have x1 := lb_word 1 x; have x2 := lb_word 2 x; have x3 := lb_word 3 x
  unfold N4
  generalize lb 0 x = a0 at *; generalize lb 1 x = a1 at *; generalize lb 2 x = a2 at *; generalize lb 3 x = a3 at *
  unfold Word at *
  obtain ⟨a0, rfl⟩ := Int.eq_ofNat_of_zero_le x0.1
  obtain ⟨a1, rfl⟩ := Int.eq_ofNat_of_zero_le x1.1
  obtain ⟨a2, rfl⟩ := Int.eq_ofNat_of_zero_le x2.1
  obtain ⟨a3, rfl⟩ := Int.eq_ofNat_of_zero_le x3.1
  have b0 : a0 < 18446744073709551616 := by omega
  have b1 : a1 < 18446744073709551616 := by omega
  have b2 : a2 < 18446744073709551616 := by omega
  have b3 : a3 < 18446744073709551616 := by omega
  have X' : x = a0 + 18446744073709551616 * a1 + 340282366920938463463374607431768211456 * a2 + 6277101735386680763835789423207666416102355444464034512896 * a3 := by unfold val4 at X; omega
  clear X
  by_cases h0 : a0 = 0
  · subst h0
    by_cases h1 : a1 = 0
    · subst h1
      by_cases h2 : a2 = 0
      · subst h2
        by_cases h3 : a3 = 0
        · subst h3
          obtain rfl : x = 0 := by omega
          exact trail_none w
        · refine (trail_at3 _ (Lib.ctz 64 a3) (by simpa using h3) (ctz_le b3) (fun W hW => tz_any a3 b3 W hW) w hT).mono ?_
          rintro e w' ⟨rfl, hb⟩
          rw [tz_limb (x := x) (j := 3) (hi := 0) hx h3 b3 (by omega)]
          exact ⟨rfl, hb⟩
      · refine (trail_at2 _ _ (Lib.ctz 64 a2) (by simpa using h2) (ctz_le b2) (fun W hW => tz_any a2 b2 W hW) w hT).mono ?_
        rintro e w' ⟨rfl, hb⟩
        rw [tz_limb (x := x) (j := 2) (hi := a3) hx h2 b2 (by omega)]
        exact ⟨rfl, hb⟩
    · refine (trail_at1 _ _ _ (Lib.ctz 64 a1) (by simpa using h1) (ctz_le b1) (fun W hW => tz_any a1 b1 W hW) w hT).mono ?_
      rintro e w' ⟨rfl, hb⟩
      rw [tz_limb (x := x) (j := 1) (hi := a2 + 18446744073709551616 * a3) hx h1 b1 (by omega)]
      exact ⟨rfl, hb⟩
  · refine (trail_at0 _ _ _ _ (Lib.ctz 64 a0) (by simpa using h0) (ctz_le b0) (fun W hW => tz_any a0 b0 W hW) w hT).mono ?_
    rintro e w' ⟨rfl, hb⟩
    rw [tz_limb (x := x) (j := 0) (hi := a1 + 18446744073709551616 * (a2 + 18446744073709551616 * a3)) hx h0 b0 (by omega)]
    exact ⟨by congr 2; omega, hb⟩
end Go.Proofs.YtebfggiodhaahaaGreatDoor
end
section
namespace Go.Proofs.YtebfggiodhaahaaGreatDoor
open Go.RowKit

/-- Low bits and high bits beside each other. -/
theorem or_split {a u y : Nat} (ha : a ≤ 64) (hu : u < 2 ^ a) : ((y % 2 ^ 64) * 2 ^ a % 2 ^ 64) ||| u = (u + 2 ^ a * y) % 2 ^ 64 := by
  have e : (y % 2 ^ 64) * 2 ^ a % 2 ^ 64 = 2 ^ a * (y % 2 ^ (64 - a)) := by
    have h64 : (2 : Nat) ^ 64 = 2 ^ a * 2 ^ (64 - a) := by rw [← Nat.pow_add]; congr 1; omega
    rw [Nat.mul_comm, ← Nat.mul_mod_mul_left (2 ^ a) y (2 ^ (64 - a)), ← h64, Nat.mul_mod, Nat.mod_mod, ← Nat.mul_mod]
  rw [e, ← Nat.two_pow_add_eq_or_of_lt hu]
  have h64 : (2 : Nat) ^ 64 = 2 ^ a * 2 ^ (64 - a) := by rw [← Nat.pow_add]; congr 1; omega
  have d1 := Nat.div_add_mod y (2 ^ (64 - a))
  have hm : y % 2 ^ (64 - a) < 2 ^ (64 - a) := Nat.mod_lt _ (Nat.two_pow_pos _)
  have lt : 2 ^ a * (y % 2 ^ (64 - a)) + u < 2 ^ 64 := by
    rw [h64]
    have : 2 ^ a * (y % 2 ^ (64 - a) + 1) ≤ 2 ^ a * 2 ^ (64 - a) := Nat.mul_le_mul_left _ hm
    rw [Nat.mul_add, Nat.mul_one] at this
    omega
  have e2 : u + 2 ^ a * y = (2 ^ a * (y % 2 ^ (64 - a)) + u) + 2 ^ 64 * (y / 2 ^ (64 - a)) := by
    conv => lhs; rw [← d1]
    rw [Nat.mul_add, ← Nat.mul_assoc, ← h64]
    omega
  rw [e2, Nat.add_mul_mod_self_left, Nat.mod_eq_of_lt lt]

theorem wrap_mul_pow (n k : Nat) : IntKind.u64.wrap ((n : Int) * 2 ^ k) = ((n * 2 ^ k % 2 ^ 64 : Nat) : Int) := by
  have e : (n : Int) * 2 ^ k = ((n * 2 ^ k : Nat) : Int) := by rw [Int.natCast_mul, Int.natCast_pow]; rfl
  rw [e, IntKind.wrap_u64]
  omega
/-- A number's limb, as a natural number. -/
theorem limb_nat (x i : Nat) : limb x (i : Int) = ((x / 2 ^ (64 * i) % 2 ^ 64 : Nat) : Int) := by
  unfold limb lb
  rw [if_neg (by omega), Int.toNat_natCast]
theorem limb_neg (x : Nat) {i : Int} (h : i < 0) : limb x i = 0 := by unfold limb; rw [if_pos h]

/-- What nat.Shl stores at a place. -/
def shlv (x : Nat) (j r : Int) : Int := bits .or .u64 (IntKind.u64.wrap (limb x j * 2 ^ r.toNat)) (limb x (j - 1) / 2 ^ min (64 - r).toNat 64)
/-- What nat.Shr stores at a place. -/
def shrv (x : Nat) (j r : Int) : Int := bits .or .u64 (limb x j / 2 ^ r.toNat) (IntKind.u64.wrap (limb x (j + 1) * 2 ^ min (64 - r).toNat 64))

theorem shlv_lb (x q r i : Nat) (hr : r < 64) : shlv x ((i : Int) - q) r = lb i (x * 2 ^ (64 * q + r)) := by
  unfold shlv
  have er : ((r : Nat) : Int).toNat = r := Int.toNat_natCast r
  have em : min (64 - ((r : Nat) : Int)).toNat 64 = 64 - r := by omega
  rw [er, em]
  by_cases h : i < q
  · rw [limb_neg x (by omega), limb_neg x (by omega)]
    have e0 : lb i (x * 2 ^ (64 * q + r)) = 0 := by
      unfold lb
      have : x * 2 ^ (64 * q + r) = 2 ^ (64 * i) * (18446744073709551616 * (2 ^ (64 * (q - i - 1) + r) * x)) := by
        rw [show (18446744073709551616 : Nat) = 2 ^ 64 from rfl, ← Nat.mul_assoc, ← Nat.mul_assoc, ← Nat.pow_add, ← Nat.pow_add, Nat.mul_comm]
        congr 2; omega
      rw [this, Nat.mul_div_cancel_left _ (Nat.two_pow_pos _), Nat.mul_mod_right]; rfl
    rw [e0, Int.zero_mul, Int.zero_ediv]
    rfl
  · obtain ⟨j, rfl⟩ : ∃ j, i = q + j := ⟨i - q, by omega⟩
    have ej : ((q + j : Nat) : Int) - q = (j : Int) := by omega
    rw [ej, limb_nat]
    have top : x * 2 ^ (64 * q + r) / 2 ^ (64 * (q + j)) = x * 2 ^ r / 2 ^ (64 * j) := by
      rw [show 64 * (q + j) = 64 * j + 64 * q from by omega, Nat.add_comm (64 * q) r, Nat.pow_add, Nat.pow_add, ← Nat.mul_assoc]
      exact Nat.mul_div_mul_right _ _ (Nat.two_pow_pos _)
    unfold lb
    rw [top]
    have hor : ∀ u y : Nat, u < 2 ^ r → bits .or .u64 (IntKind.u64.wrap (((y % 2 ^ 64 : Nat) : Int) * 2 ^ r)) (u : Int) = (((u + 2 ^ r * y) % 2 ^ 64 : Nat) : Int) := fun u y hu => by
      have e1 : IntKind.u64.wrap (((y % 2 ^ 64 : Nat) : Int) * 2 ^ r) = (((y % 2 ^ 64) * 2 ^ r % 2 ^ 64 : Nat) : Int) := wrap_mul_pow _ _
      have hu64 : u < 18446744073709551616 := Nat.lt_of_lt_of_le hu (Nat.pow_le_pow_right (n := 2) (by omega) (show r ≤ 64 by omega))
      rw [e1, u64_or_nat _ _ (Nat.mod_lt _ (by decide)) hu64, or_split (by omega) hu]
    cases j with
    | zero =>
      rw [limb_neg x (by omega), Int.zero_ediv]
      have := hor 0 x (Nat.two_pow_pos _)
      simp only [Nat.mul_zero, Nat.pow_zero, Nat.div_one, Nat.zero_add] at this ⊢
      rw [Nat.mul_comm x]
      exact this
    | succ j =>
      rw [show ((j + 1 : Nat) : Int) - 1 = (j : Int) from by omega, limb_nat]
      have hdiv : ((x / 2 ^ (64 * j) % 2 ^ 64 : Nat) : Int) / 2 ^ (64 - r) = ((x / 2 ^ (64 * j) % 2 ^ 64 / 2 ^ (64 - r) : Nat) : Int) := by
        generalize x / 2 ^ (64 * j) % 2 ^ 64 = n
        rw [Int.natCast_ediv, Int.natCast_pow]; rfl
      have h64 : (2 : Nat) ^ 64 = 2 ^ (64 - r) * 2 ^ r := by rw [← Nat.pow_add]; congr 1; omega
      have hu : x / 2 ^ (64 * j) % 2 ^ 64 / 2 ^ (64 - r) < 2 ^ r := by
        apply Nat.div_lt_of_lt_mul
        rw [← h64]; exact Nat.mod_lt _ (by decide)
      rw [hdiv, hor _ _ hu]
      congr 1
      have e3 : x * 2 ^ r / 2 ^ (64 * (j + 1)) = x / 2 ^ (64 * j) / 2 ^ (64 - r) := by
        rw [show 64 * (j + 1) = 64 * j + (64 - r) + r from by omega, Nat.pow_add, Nat.mul_div_mul_right _ _ (Nat.two_pow_pos _), Nat.pow_add, Nat.div_div_eq_div_mul]
      have e4 : x / 2 ^ (64 * (j + 1)) = x / 2 ^ (64 * j) / 2 ^ 64 := by
        rw [show 64 * (j + 1) = 64 * j + 64 from by omega, Nat.pow_add, Nat.div_div_eq_div_mul]
      rw [e3, e4]
      generalize x / 2 ^ (64 * j) = y
      have d := Nat.div_add_mod y (2 ^ 64)
      have : y / 2 ^ (64 - r) = y % 2 ^ 64 / 2 ^ (64 - r) + 2 ^ r * (y / 2 ^ 64) := by
        conv => lhs; rw [← d, h64, Nat.mul_assoc, Nat.add_comm, Nat.add_mul_div_left _ _ (Nat.two_pow_pos _)]
        rw [← h64]
      rw [this]

theorem shrv_lb (x q r i : Nat) (hr : r < 64) : shrv x ((i : Int) + q) r = lb i (x / 2 ^ (64 * q + r)) := by
  unfold shrv
  have er : ((r : Nat) : Int).toNat = r := Int.toNat_natCast r
  have em : min (64 - ((r : Nat) : Int)).toNat 64 = 64 - r := by omega
  rw [er, em, show (i : Int) + q = ((i + q : Nat) : Int) from by omega, show ((i + q : Nat) : Int) + 1 = ((i + q + 1 : Nat) : Int) from by omega, limb_nat, limb_nat]
  unfold lb
  have top : x / 2 ^ (64 * q + r) / 2 ^ (64 * i) = x / 2 ^ (64 * (i + q)) / 2 ^ r := by
    rw [Nat.div_div_eq_div_mul, Nat.div_div_eq_div_mul, ← Nat.pow_add, ← Nat.pow_add]; congr 2; omega
  have e4 : x / 2 ^ (64 * (i + q + 1)) = x / 2 ^ (64 * (i + q)) / 2 ^ 64 := by
    rw [show 64 * (i + q + 1) = 64 * (i + q) + 64 from by omega, Nat.pow_add, Nat.div_div_eq_div_mul]
  rw [top, e4]
  generalize x / 2 ^ (64 * (i + q)) = y
  have h64 : (2 : Nat) ^ 64 = 2 ^ r * 2 ^ (64 - r) := by rw [← Nat.pow_add]; congr 1; omega
  have hu : y % 2 ^ 64 / 2 ^ r < 2 ^ (64 - r) := by
    apply Nat.div_lt_of_lt_mul
    rw [← h64]; exact Nat.mod_lt _ (by decide)
  have hdiv : ((y % 2 ^ 64 : Nat) : Int) / 2 ^ r = ((y % 2 ^ 64 / 2 ^ r : Nat) : Int) := by
    generalize y % 2 ^ 64 = n
    rw [Int.natCast_ediv, Int.natCast_pow]; rfl
  have e1 : IntKind.u64.wrap (((y / 2 ^ 64 % 2 ^ 64 : Nat) : Int) * 2 ^ (64 - r)) = (((y / 2 ^ 64 % 2 ^ 64) * 2 ^ (64 - r) % 2 ^ 64 : Nat) : Int) := wrap_mul_pow _ _
  have hu64 : y % 2 ^ 64 / 2 ^ r < 18446744073709551616 := Nat.lt_of_le_of_lt (Nat.div_le_self _ _) (Nat.mod_lt _ (by decide))
  rw [hdiv, e1, u64_or_nat _ _ hu64 (Nat.mod_lt _ (by decide)), Nat.or_comm, or_split (by omega) hu]
  congr 1
  have d := Nat.div_add_mod y (2 ^ 64)
  have : y / 2 ^ r = y % 2 ^ 64 / 2 ^ r + 2 ^ (64 - r) * (y / 2 ^ 64) := by
    conv => lhs; rw [← d, h64, Nat.mul_assoc, Nat.add_comm, Nat.add_mul_div_left _ _ (Nat.two_pow_pos _)]
    rw [← h64]
  rw [this]

end Go.Proofs.YtebfggiodhaahaaGreatDoor
end
section
namespace Go.Proofs.YtebfggiodhaahaaGreatDoor
open Go.RowKit Go.Shelf

set_option maxHeartbeats 2000000 in
set_option maxRecDepth 100000 in
theorem shr_main (x : Nat) (hx : x < 2 ^ 256) (k k0 r : Int) (hk : 0 ≤ k) (hk2 : k ≤ 9223372036854775807) (hmax : max k0 0 = k) (hr0 : 0 ≤ r) (hr1 : r < 64) (hm : k % 64 = r) (w : World) : Calls Tryz.prog 196 #[N4 x, .int .i64 k0] w fun e w' => e = .returned (.agg #[.int .u64 (shrv x (k / 64) r), .int .u64 (shrv x (1 + k / 64) r), .int .u64 (shrv x (2 + k / 64) r), .int .u64 (shrv x (3 + k / 64) r)]) ∧ Below w.heap.size w w' := by
  go_enter Tryz.func196, Tryz.ntmps196
  go_wp2
  refine wp_loop_rounds 5 ?_
  rw [rounds_succ]
  go_wp2
  go_region_held3 (fun w' => w'.cell? ⟨w.heap.size, 0, none⟩ = some (.int .u64 (lb 0 x)) ∧ w'.cell? ⟨w.heap.size, 1, none⟩ = some (.int .u64 (lb 1 x)) ∧ w'.cell? ⟨w.heap.size, 2, none⟩ = some (.int .u64 (lb 2 x)) ∧ w'.cell? ⟨w.heap.size, 3, none⟩ = some (.int .u64 (lb 3 x))) (simp [go_sem, World.cell?_alloc_past]) (first | (go_at_call 153; refine (limb_one x hx _ _).mono ?_; rintro e w1 ⟨rfl, o3, rfl⟩))
  go_wp2
  rw [rounds_succ]
  go_wp2
  go_region_held3 (fun w' => w'.cell? ⟨w.heap.size, 0, none⟩ = some (.int .u64 (lb 0 x)) ∧ w'.cell? ⟨w.heap.size, 1, none⟩ = some (.int .u64 (lb 1 x)) ∧ w'.cell? ⟨w.heap.size, 2, none⟩ = some (.int .u64 (lb 2 x)) ∧ w'.cell? ⟨w.heap.size, 3, none⟩ = some (.int .u64 (lb 3 x))) (simp [go_sem, World.cell?_alloc_past]) (first | (go_at_call 153; refine (limb_one x hx _ _).mono ?_; rintro e w1 ⟨rfl, o3, rfl⟩))
  go_wp2
  rw [rounds_succ]
  go_wp2
  go_region_held3 (fun w' => w'.cell? ⟨w.heap.size, 0, none⟩ = some (.int .u64 (lb 0 x)) ∧ w'.cell? ⟨w.heap.size, 1, none⟩ = some (.int .u64 (lb 1 x)) ∧ w'.cell? ⟨w.heap.size, 2, none⟩ = some (.int .u64 (lb 2 x)) ∧ w'.cell? ⟨w.heap.size, 3, none⟩ = some (.int .u64 (lb 3 x))) (simp [go_sem, World.cell?_alloc_past]) (first | (go_at_call 153; refine (limb_one x hx _ _).mono ?_; rintro e w1 ⟨rfl, o3, rfl⟩))
  go_wp2
  rw [rounds_succ]
  go_wp2
  go_region_held3 (fun w' => w'.cell? ⟨w.heap.size, 0, none⟩ = some (.int .u64 (lb 0 x)) ∧ w'.cell? ⟨w.heap.size, 1, none⟩ = some (.int .u64 (lb 1 x)) ∧ w'.cell? ⟨w.heap.size, 2, none⟩ = some (.int .u64 (lb 2 x)) ∧ w'.cell? ⟨w.heap.size, 3, none⟩ = some (.int .u64 (lb 3 x))) (simp [go_sem, World.cell?_alloc_past]) (first | (go_at_call 153; refine (limb_one x hx _ _).mono ?_; rintro e w1 ⟨rfl, o3, rfl⟩))
  go_wp2
  rw [rounds_succ]
  go_wp2
  refine bodyPost_ret (v := .agg #[.int .u64 (shrv x (k / 64) r), .int .u64 (shrv x (1 + k / 64) r), .int .u64 (shrv x (2 + k / 64) r), .int .u64 (shrv x (3 + k / 64) r)]) (by simp [results, Tryz.results196, go_sem, shrv]) rfl ⟨rfl, ?_⟩
  repeat (first | exact Below.refl _ _ | refine bal ?_ _ | refine Below.drew ?_ | refine bdn ?_ _ | refine bsc4 ?_ (by omega) _ _ _ _)
/-- nat.Shr (a place below 0 counts as 0). -/
theorem shr_any (x : Nat) (hx : x < 2 ^ 256) (k : Int) (hk : k ≤ 9223372036854775807) (w : World) : Calls Tryz.prog 196 #[N4 x, .int .i64 k] w fun e w' => e = .returned (N4 (x / 2 ^ k.toNat)) ∧ Below w.heap.size w w' := by
  refine (shr_main x hx (k.toNat : Int) k ((k.toNat % 64 : Nat) : Int) (by omega) (by omega) (by omega) (by omega) (by omega) (by omega) w).mono ?_
  rintro e w' ⟨rfl, hbw⟩
  refine ⟨?_, hbw⟩
  generalize k.toNat = k
  have hk : 64 * (k / 64) + k % 64 = k := Nat.div_add_mod k 64
  have sh : ∀ i : Nat, shrv x ((i : Int) + (k : Int) / 64) ((k % 64 : Nat) : Int) = lb i (x / 2 ^ k) := fun i => by
    have := shrv_lb x (k / 64) (k % 64) i (Nat.mod_lt _ (by decide))
    rw [hk] at this
    rw [← this]; rfl
  have s0 := sh 0; have s1 := sh 1; have s2 := sh 2; have s3 := sh 3
  rw [show ((0 : Nat) : Int) + (k : Int) / 64 = ((k : Int) / 64) from by omega] at s0
  rw [s0, show (1 : Int) + (k : Int) / 64 = ((1 : Nat) : Int) + (k : Int) / 64 from rfl, s1, show (2 : Int) + (k : Int) / 64 = ((2 : Nat) : Int) + (k : Int) / 64 from rfl, s2, show (3 : Int) + (k : Int) / 64 = ((3 : Nat) : Int) + (k : Int) / 64 from rfl, s3]

end Go.Proofs.YtebfggiodhaahaaGreatDoor
end
section
namespace Go.Proofs.YtebfggiodhaahaaGreatDoor
open Go.RowKit Go.Shelf
attribute [local go_sem ↓] eql_nat neq_nat

theorem shl_neg (x : Nat) (k : Int) (hk : k < 0) (w : World) : Calls Tryz.prog 106 #[N4 x, .int .i64 k] w fun e w' => e = .returned (.tuple #[.agg #[.int .u64 0, .int .u64 0, .int .u64 0, .int .u64 0], .bool false]) ∧ Below w.heap.size w w' := by
  go_enter Tryz.func106, Tryz.ntmps106
  go_wp2
  exact bodyPost_ret (v := .tuple #[.agg #[.int .u64 0, .int .u64 0, .int .u64 0, .int .u64 0], .bool false]) (by simp [results, Tryz.results106, go_sem]) rfl ⟨rfl, bal (bal (Below.refl _ _) _) _⟩

set_option maxRecDepth 100000 in
theorem shl_zero (x : Nat) (k : Int) (hk : ¬ k < 0) (hq : eq4 (lb 0 x) (lb 1 x) (lb 2 x) (lb 3 x) 0 0 0 0 = true) (w : World) : Calls Tryz.prog 106 #[N4 x, .int .i64 k] w fun e w' => e = .returned (.tuple #[N4 x, .bool true]) ∧ Below w.heap.size w w' := by
  go_enter Tryz.func106, Tryz.ntmps106
  go_wp2
  go_region_held3 (fun w' => w'.cell? ⟨w.heap.size, 0, none⟩ = some (.int .u64 (lb 0 x)) ∧ w'.cell? ⟨w.heap.size, 1, none⟩ = some (.int .u64 (lb 1 x)) ∧ w'.cell? ⟨w.heap.size, 2, none⟩ = some (.int .u64 (lb 2 x)) ∧ w'.cell? ⟨w.heap.size, 3, none⟩ = some (.int .u64 (lb 3 x))) (simp [go_sem, World.cell?_alloc_past]) (first | (go_at_call 107; refine (of_one _ _).mono ?_; rintro e w1 ⟨rfl, o1, rfl⟩))
  go_wp2
  refine bodyPost_ret (v := .tuple #[N4 x, .bool true]) (by simp [results, Tryz.results106, go_sem]) rfl ⟨rfl, ?_⟩
  repeat (first | exact Below.refl _ _ | refine bal ?_ _ | refine Below.drew ?_ | refine bdn ?_ _ | refine bsc4 ?_ (by omega) _ _ _ _)

set_option maxRecDepth 100000 in
theorem shl_over (x : Nat) (hx : x < 2 ^ 256) (k : Int) (hk : ¬ k < 0) (hq : eq4 (lb 0 x) (lb 1 x) (lb 2 x) (lb 3 x) 0 0 0 0 = false) (hl : 256 - (blen x : Int) < k) (hl2 : (blen x : Int) ≤ 256) (w : World) : Calls Tryz.prog 106 #[N4 x, .int .i64 k] w fun e w' => e = .returned (.tuple #[.agg #[.int .u64 0, .int .u64 0, .int .u64 0, .int .u64 0], .bool false]) ∧ Below w.heap.size w w' := by
  go_enter Tryz.func106, Tryz.ntmps106
  go_wp2
  go_region_held3 (fun w' => w'.cell? ⟨w.heap.size, 0, none⟩ = some (.int .u64 (lb 0 x)) ∧ w'.cell? ⟨w.heap.size, 1, none⟩ = some (.int .u64 (lb 1 x)) ∧ w'.cell? ⟨w.heap.size, 2, none⟩ = some (.int .u64 (lb 2 x)) ∧ w'.cell? ⟨w.heap.size, 3, none⟩ = some (.int .u64 (lb 3 x))) (simp [go_sem, World.cell?_alloc_past]) (first | (go_at_call 107; refine (of_one _ _).mono ?_; rintro e w1 ⟨rfl, o1, rfl⟩))
  go_wp2_with fail
  refine (len_one x hx _).mono ?_
  rintro e w2 ⟨rfl, o2, rfl⟩
  go_wp2
  refine bodyPost_ret (v := .tuple #[.agg #[.int .u64 0, .int .u64 0, .int .u64 0, .int .u64 0], .bool false]) (by simp [results, Tryz.results106, go_sem]) rfl ⟨rfl, ?_⟩
  repeat (first | exact Below.refl _ _ | refine bal ?_ _ | refine Below.drew ?_ | refine bdn ?_ _ | refine bsc4 ?_ (by omega) _ _ _ _)

set_option maxHeartbeats 2000000 in
set_option maxRecDepth 100000 in
theorem shl_main (x : Nat) (hx : x < 2 ^ 256) (k r : Int) (hk : 0 ≤ k) (hk2 : k ≤ 256) (hr0 : 0 ≤ r) (hr1 : r < 64) (hm : k % 64 = r) (hq : eq4 (lb 0 x) (lb 1 x) (lb 2 x) (lb 3 x) 0 0 0 0 = false) (hl : ¬ 256 - (blen x : Int) < k) (hl2 : (blen x : Int) ≤ 256) (w : World) : Calls Tryz.prog 106 #[N4 x, .int .i64 k] w fun e w' => e = .returned (.tuple #[.agg #[.int .u64 (shlv x (-(k / 64)) r), .int .u64 (shlv x (1 - k / 64) r), .int .u64 (shlv x (2 - k / 64) r), .int .u64 (shlv x (3 - k / 64) r)], .bool true]) ∧ Below w.heap.size w w' := by
  go_enter Tryz.func106, Tryz.ntmps106
  go_wp2
  go_region_held3 (fun w' => w'.cell? ⟨w.heap.size, 0, none⟩ = some (.int .u64 (lb 0 x)) ∧ w'.cell? ⟨w.heap.size, 1, none⟩ = some (.int .u64 (lb 1 x)) ∧ w'.cell? ⟨w.heap.size, 2, none⟩ = some (.int .u64 (lb 2 x)) ∧ w'.cell? ⟨w.heap.size, 3, none⟩ = some (.int .u64 (lb 3 x))) (simp [go_sem, World.cell?_alloc_past]) (first | (go_at_call 107; refine (of_one _ _).mono ?_; rintro e w1 ⟨rfl, o1, rfl⟩))
  go_wp2_with fail
  refine (len_one x hx _).mono ?_
  rintro e w2 ⟨rfl, o2, rfl⟩
  go_wp2
  refine wp_loop_rounds 5 ?_
  rw [rounds_succ]
  go_wp2
  go_region_held3 (fun w' => w'.cell? ⟨w.heap.size, 0, none⟩ = some (.int .u64 (lb 0 x)) ∧ w'.cell? ⟨w.heap.size, 1, none⟩ = some (.int .u64 (lb 1 x)) ∧ w'.cell? ⟨w.heap.size, 2, none⟩ = some (.int .u64 (lb 2 x)) ∧ w'.cell? ⟨w.heap.size, 3, none⟩ = some (.int .u64 (lb 3 x))) (simp [go_sem, World.cell?_alloc_past]) (first | (go_at_call 153; refine (limb_one x hx _ _).mono ?_; rintro e w1 ⟨rfl, o3, rfl⟩))
  go_wp2
  rw [rounds_succ]
  go_wp2
  go_region_held3 (fun w' => w'.cell? ⟨w.heap.size, 0, none⟩ = some (.int .u64 (lb 0 x)) ∧ w'.cell? ⟨w.heap.size, 1, none⟩ = some (.int .u64 (lb 1 x)) ∧ w'.cell? ⟨w.heap.size, 2, none⟩ = some (.int .u64 (lb 2 x)) ∧ w'.cell? ⟨w.heap.size, 3, none⟩ = some (.int .u64 (lb 3 x))) (simp [go_sem, World.cell?_alloc_past]) (first | (go_at_call 153; refine (limb_one x hx _ _).mono ?_; rintro e w1 ⟨rfl, o3, rfl⟩))
  go_wp2
  rw [rounds_succ]
  go_wp2
  go_region_held3 (fun w' => w'.cell? ⟨w.heap.size, 0, none⟩ = some (.int .u64 (lb 0 x)) ∧ w'.cell? ⟨w.heap.size, 1, none⟩ = some (.int .u64 (lb 1 x)) ∧ w'.cell? ⟨w.heap.size, 2, none⟩ = some (.int .u64 (lb 2 x)) ∧ w'.cell? ⟨w.heap.size, 3, none⟩ = some (.int .u64 (lb 3 x))) (simp [go_sem, World.cell?_alloc_past]) (first | (go_at_call 153; refine (limb_one x hx _ _).mono ?_; rintro e w1 ⟨rfl, o3, rfl⟩))
  go_wp2
  rw [rounds_succ]
  go_wp2
  go_region_held3 (fun w' => w'.cell? ⟨w.heap.size, 0, none⟩ = some (.int .u64 (lb 0 x)) ∧ w'.cell? ⟨w.heap.size, 1, none⟩ = some (.int .u64 (lb 1 x)) ∧ w'.cell? ⟨w.heap.size, 2, none⟩ = some (.int .u64 (lb 2 x)) ∧ w'.cell? ⟨w.heap.size, 3, none⟩ = some (.int .u64 (lb 3 x))) (simp [go_sem, World.cell?_alloc_past]) (first | (go_at_call 153; refine (limb_one x hx _ _).mono ?_; rintro e w1 ⟨rfl, o3, rfl⟩))
  go_wp2
  rw [rounds_succ]
  go_wp2
  refine bodyPost_ret (v := .tuple #[.agg #[.int .u64 (shlv x (-(k / 64)) r), .int .u64 (shlv x (1 - k / 64) r), .int .u64 (shlv x (2 - k / 64) r), .int .u64 (shlv x (3 - k / 64) r)], .bool true]) (by simp [results, Tryz.results106, go_sem, shlv]) rfl ⟨rfl, ?_⟩
  repeat (first | exact Below.refl _ _ | refine bal ?_ _ | refine Below.drew ?_ | refine bdn ?_ _ | refine bsc4 ?_ (by omega) _ _ _ _)
theorem shl_zero_number (x : Nat) (hx : x < 2 ^ 256) : eq4 (lb 0 x) (lb 1 x) (lb 2 x) (lb 3 x) 0 0 0 0 = decide (x = 0) := eq4_of x 0 hx (by decide)
theorem mul_pow_lt {x k : Nat} (hx : x ≠ 0) : x * 2 ^ k < 2 ^ 256 ↔ blen x + k ≤ 256 := by
  obtain ⟨h1, h2, h3⟩ := blen_spec hx
  constructor
  · intro h
    have : 2 ^ (blen x - 1) * 2 ^ k < 2 ^ 256 := Nat.lt_of_le_of_lt (Nat.mul_le_mul_right _ h2) h
    rw [← Nat.pow_add] at this
    have := (Nat.pow_lt_pow_iff_right (a := 2) (by omega)).1 this
    omega
  · intro h
    have : x * 2 ^ k < 2 ^ blen x * 2 ^ k := Nat.mul_lt_mul_of_pos_right h3 (Nat.two_pow_pos _)
    rw [← Nat.pow_add] at this
    exact Nat.lt_of_lt_of_le this (Nat.pow_le_pow_right (by omega) h)
/-- nat.Shl, where the number fits. -/
theorem shl_ok (x k : Nat) (hx : x < 2 ^ 256) (h : x * 2 ^ k < 2 ^ 256) (w : World) : Calls Tryz.prog 106 #[N4 x, .int .i64 k] w fun e w' => e = .returned (.tuple #[N4 (x * 2 ^ k), .bool true]) ∧ Below w.heap.size w w' := by
  by_cases h0 : x = 0
  · subst h0
    rw [Nat.zero_mul]
    exact shl_zero 0 k (by omega) (by rw [shl_zero_number 0 hx]; rfl) w
  · have hb := (mul_pow_lt h0).1 h
    have h1 := (blen_spec h0).1
    refine (shl_main x hx k ((k % 64 : Nat) : Int) (by omega) (by omega) (by omega) (by omega) (by omega) (by rw [shl_zero_number x hx]; simp [h0]) (by omega) (by omega) w).mono ?_
    rintro e w' ⟨rfl, hbw⟩
    refine ⟨?_, hbw⟩
    have hk : 64 * (k / 64) + k % 64 = k := Nat.div_add_mod k 64
    have sh : ∀ i : Nat, shlv x ((i : Int) - (k : Int) / 64) ((k % 64 : Nat) : Int) = lb i (x * 2 ^ k) := fun i => by
      have := shlv_lb x (k / 64) (k % 64) i (Nat.mod_lt _ (by decide))
      rw [hk] at this
      rw [← this]; rfl
    have s0 := sh 0; have s1 := sh 1; have s2 := sh 2; have s3 := sh 3
    rw [show ((0 : Nat) : Int) - (k : Int) / 64 = -((k : Int) / 64) from by omega] at s0
    rw [s0, show (1 : Int) - (k : Int) / 64 = ((1 : Nat) : Int) - (k : Int) / 64 from rfl, s1, show (2 : Int) - (k : Int) / 64 = ((2 : Nat) : Int) - (k : Int) / 64 from rfl, s2, show (3 : Int) - (k : Int) / 64 = ((3 : Nat) : Int) - (k : Int) / 64 from rfl, s3]
/-- nat.Shl, where a bit would go over. -/
theorem shl_no (x k : Nat) (hx : x < 2 ^ 256) (h : ¬ x * 2 ^ k < 2 ^ 256) (w : World) : Calls Tryz.prog 106 #[N4 x, .int .i64 k] w fun e w' => e = .returned (.tuple #[.agg #[.int .u64 0, .int .u64 0, .int .u64 0, .int .u64 0], .bool false]) ∧ Below w.heap.size w w' := by
  have h0 : x ≠ 0 := fun e => h (by rw [e, Nat.zero_mul]; exact Nat.two_pow_pos _)
  have hb : ¬ blen x + k ≤ 256 := fun e => h ((mul_pow_lt h0).2 e)
  have := blen_le hx
  exact shl_over x hx k (by omega) (by rw [shl_zero_number x hx]; simp [h0]) (by omega) (by omega) w

end Go.Proofs.YtebfggiodhaahaaGreatDoor
end
