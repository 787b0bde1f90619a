/-
  entrepotref6.EncodeCBOR at a whole number that a head can say.
-/
import Derived.Test.YtgcfhoglcdgekaaGreatDoorCbHdR
import Derived.Test.YtgcfhoglcdgekaaGreatDoorGO
namespace Go.Proofs.YtgcfhoglcdgekaaGreatDoor
open Go.RowKit Go.Shelf
open Go.Sort (grow)
set_option linter.unusedVariables false

theorem blen_64 {x : Nat} (h : x < 18446744073709551616) : blen x ≤ 64 := by
  rcases Nat.lt_or_ge 64 (blen x) with h1 | h1
  · exfalso
    by_cases h0 : x = 0
    · subst h0; exact absurd h1 (by decide)
    · have h2 := (blen_spec h0).2.1
      have h3 : 2 ^ 64 ≤ 2 ^ (blen x - 1) := Nat.pow_le_pow_right (by decide) (by omega)
      omega
  · exact h1
theorem lb0_small {x : Nat} (h : x < 18446744073709551616) : lb 0 x = (x : Int) := by
  have := (lb_small (v := (x : Int)) (by omega) (by omega)).1
  rw [Int.natAbs_natCast] at this
  exact this
theorem digs_64 {x : Nat} (h : x < 2 ^ 256) : (digs x).length ≤ 1000 := Nat.le_trans (digs_len.2 (show x < 2 ^ (32 * 8) from h)) (by decide)
theorem rnat_yes {s : Value} {x : Nat} {w : World} (hx : DR w s x) (h : x < 2 ^ 256) : Calls Tryz.prog 7 #[s] w fun e w' => e = .returned (.tuple #[N4 x, .bool true]) ∧ Below w.heap.size w w' := by
  have := rnat hx
  rw [if_pos h] at this
  exact this
set_option maxRecDepth 100000 in
set_option maxHeartbeats 4000000 in
theorem rwhole_pos (x : Nat) (hx : x < 18446744073709551616) (w : World) : Calls Tryz.prog 35 #[.agg #[.bool false, .int .u64 (lb 0 x), .int .u64 (lb 1 x), .int .u64 (lb 2 x), .int .u64 (lb 3 x)]] w fun e w' => e = .returned (.string (str (hds 0 x))) ∧ Below w.heap.size w w' := by
  have h256 : x < 2 ^ 256 := Nat.lt_of_lt_of_le hx (by decide)
  have HX := Lib.hid h256
  have LX := Lib.hid (digs_64 h256)
  have hle : (blen x : Int) ≤ 64 := by have := blen_64 hx; omega
  have KH : Hid (∀ W, Calls Tryz.prog 37 #[.int .i64 0, .int .u64 (lb 0 x)] W fun e w' => e = .returned (.string (str (hds 0 x))) ∧ Below W.heap.size W w') := Lib.hid (fun W => by rw [lb0_small hx]; exact rhead 0 x (by decide) hx W)
  clear hx h256
  go_enter Tryz.func35, Tryz.ntmps35
  go_wp2_with fail
  refine (rof x HX.out _).mono ?_
  rintro e w1 ⟨s1, rfl, hr, hb⟩
  have R1 := Row5.keep hb (Row5.new w (.bool false) (.int .u64 (lb 0 x)) (.int .u64 (lb 1 x)) (.int .u64 (lb 2 x)) (.int .u64 (lb 3 x)))
  have B1 := Lib.hid (btr (bal (Below.refl w.heap.size w) _) hb)
  have D1 := Lib.hid hr
  clear hb hr
  obtain ⟨c0, c1, c2, c3, c4⟩ := R1.parts
  go_wp2_with fail
  ((with_reducible refine (rnat_yes D1.out HX.out).mono ?_); rintro e w2 ⟨rfl, hb⟩)
  have B2 := Lib.hid (bal (btr B1.out hb) (.cells #[.int .u64 (lb 0 x), .int .u64 (lb 1 x), .int .u64 (lb 2 x), .int .u64 (lb 3 x)] 26))
  have D2 := Lib.hid (DR.keep (bal hb (.cells #[.int .u64 (lb 0 x), .int .u64 (lb 1 x), .int .u64 (lb 2 x), .int .u64 (lb 3 x)] 26)) D1.out)
  have N2 := Row4.new w2 (.int .u64 (lb 0 x)) (.int .u64 (lb 1 x)) (.int .u64 (lb 2 x)) (.int .u64 (lb 3 x))
  clear hb c0 c1 c2 c3 c4 R1
  obtain ⟨n0, n1, n2, n3⟩ := N2.four
  go_wp2_with fail
  ((with_reducible refine (rlen D2.out LX.out).mono ?_); rintro e w3 ⟨rfl, rfl⟩)
  go_wp2_with fail
  ((with_reducible refine (KH.out _).mono ?_); rintro e w4 ⟨rfl, hb⟩)
  go_wp2
  go_ret
  exact ⟨rfl, btr B2.out hb⟩
set_option maxRecDepth 100000 in
set_option maxHeartbeats 4000000 in
theorem rwhole_neg (y : Nat) (hy : y < 18446744073709551616) (w : World) : Calls Tryz.prog 35 #[.agg #[.bool true, .int .u64 (lb 0 (y + 1)), .int .u64 (lb 1 (y + 1)), .int .u64 (lb 2 (y + 1)), .int .u64 (lb 3 (y + 1))]] w fun e w' => e = .returned (.string (str (hds 1 y))) ∧ Below w.heap.size w w' := by
  obtain ⟨x, hx⟩ : ∃ x, y + 1 = x := ⟨_, rfl⟩
  rw [hx]
  have h256 : y < 2 ^ 256 := Nat.lt_of_lt_of_le hy (by decide)
  have h257 : x < 2 ^ 256 := by rw [← hx]; exact Nat.lt_of_le_of_lt (show y + 1 ≤ 18446744073709551616 by omega) (by decide)
  have HX := Lib.hid h257; have HY := Lib.hid h256
  have LX := Lib.hid (digs_64 h257); have LY := Lib.hid (digs_64 h256)
  have hle : (blen y : Int) ≤ 64 := by have := blen_64 hy; omega
  have KH : Hid (∀ W, Calls Tryz.prog 37 #[.int .i64 1, .int .u64 (lb 0 y)] W fun e w' => e = .returned (.string (str (hds 1 y))) ∧ Below W.heap.size W w') := Lib.hid (fun W => by rw [lb0_small hy]; exact rhead 1 y (by decide) hy W)
  have H1 : Hid (1 ≤ x) := Lib.hid (by omega)
  have H2 : Hid (x - 1 = y) := Lib.hid (by omega)
  clear hy h256 h257 hx
  go_enter Tryz.func35, Tryz.ntmps35
  go_wp2_with fail
  refine (rof x HX.out _).mono ?_
  rintro e w1 ⟨s1, rfl, hr, hb⟩
  have R1 := Row5.keep hb (Row5.new w (.bool true) (.int .u64 (lb 0 x)) (.int .u64 (lb 1 x)) (.int .u64 (lb 2 x)) (.int .u64 (lb 3 x)))
  have B1 := Lib.hid (bal (btr (bal (Below.refl w.heap.size w) _) hb) (.cells #[.int .u32 1] 40))
  have D1 := Lib.hid (DR.keep (bal (Below.refl _ _) (.cells #[.int .u32 1] 40)) hr)
  have O1 := Lib.hid (ten_new w1 1 (by decide) (by decide) 1 rfl)
  have KS : Hid (Calls Tryz.prog 68 #[s1, .slice (some ⟨w1.heap.size, 0, none⟩) 1 1] (w1.alloc (.cells #[.int .u32 1] 40)) fun e w' => ∃ s', e = .returned s' ∧ DR w' s' y ∧ Below (w1.alloc (.cells #[.int .u32 1] 40)).heap.size (w1.alloc (.cells #[.int .u32 1] 40)) w') := Lib.hid (by have := rsub D1.out O1.out LX.out H1.out; rw [H2.out] at this; exact this)
  clear hb hr
  obtain ⟨c0, c1, c2, c3, c4⟩ := R1.parts
  go_wp2_with fail
  ((with_reducible refine (KS.out).mono ?_); rintro e w2 ⟨s2, rfl, hr, hb⟩)
  have B2 := Lib.hid (btr B1.out hb)
  have D2 := Lib.hid hr
  clear hb hr c0 c1 c2 c3 c4 R1 D1 O1 KS
  go_wp2_with fail
  ((with_reducible refine (rnat_yes D2.out HY.out).mono ?_); rintro e w3 ⟨rfl, hb⟩)
  have B3 := Lib.hid (bal (btr B2.out hb) (.cells #[.int .u64 (lb 0 y), .int .u64 (lb 1 y), .int .u64 (lb 2 y), .int .u64 (lb 3 y)] 26))
  have D3 := Lib.hid (DR.keep (bal hb (.cells #[.int .u64 (lb 0 y), .int .u64 (lb 1 y), .int .u64 (lb 2 y), .int .u64 (lb 3 y)] 26)) D2.out)
  have N3 := Row4.new w3 (.int .u64 (lb 0 y)) (.int .u64 (lb 1 y)) (.int .u64 (lb 2 y)) (.int .u64 (lb 3 y))
  clear hb
  obtain ⟨n0, n1, n2, n3⟩ := N3.four
  go_wp2_with fail
  ((with_reducible refine (rlen D3.out LY.out).mono ?_); rintro e w4 ⟨rfl, rfl⟩)
  go_wp2_with fail
  ((with_reducible refine (KH.out _).mono ?_); rintro e w5 ⟨rfl, hb⟩)
  go_wp2
  go_ret
  exact ⟨rfl, btr B3.out hb⟩
/-- A whole number that a head can say. -/
def headI (g : Bool) (y : Nat) : Nat := if g then y + 1 else y
theorem intB_head (g : Bool) (y : Nat) (hy : y < 18446744073709551616) : intB g (headI g y) = hds (if g then 1 else 0) y := by
  unfold intB headI natB
  cases g with
  | false =>
    show (if y < 18446744073709551616 then hds 0 y else _) = hds 0 y
    rw [if_pos hy]
  | true =>
    show (if y + 1 - 1 < 18446744073709551616 then hds 1 (y + 1 - 1) else _) = hds 1 y
    rw [Nat.add_sub_cancel, if_pos hy]
theorem rwhole_any (g : Bool) (y : Nat) (hy : y < 18446744073709551616) (w : World) : Calls Tryz.prog 35 #[.agg #[.bool g, .int .u64 (lb 0 (headI g y)), .int .u64 (lb 1 (headI g y)), .int .u64 (lb 2 (headI g y)), .int .u64 (lb 3 (headI g y))]] w fun e w' => e = .returned (.string (str (intB g (headI g y)))) ∧ Below w.heap.size w w' := by
  rw [intB_head g y hy]
  cases g with
  | false => exact rwhole_pos y hy w
  | true => exact rwhole_neg y hy w
set_option maxRecDepth 100000 in
set_option maxHeartbeats 4000000 in
theorem ritem_int (g : Bool) (y : Nat) (hy : y < 18446744073709551616) (w : World) : Calls Tryz.prog 17 #[V10 3 g (lb 0 (headI g y)) (lb 1 (headI g y)) (lb 2 (headI g y)) (lb 3 (headI g y)) 0 ⟨#[]⟩ none 0 0 none 0 0] w fun e w' => e = .returned (.string (str (intB g (headI g y)))) ∧ Below w.heap.size w w' := by
  have KW := Lib.hid (fun W => rwhole_any g y hy W)
  obtain ⟨x, hx⟩ : ∃ x, headI g y = x := ⟨_, rfl⟩
  rw [hx] at KW ⊢
  clear hx hy
  have R0 := Row10.new w (.int .i64 3) (.bool g) (.int .u64 (lb 0 x)) (.int .u64 (lb 1 x)) (.int .u64 (lb 2 x)) (.int .u64 (lb 3 x)) (.int .u64 0) (.string ⟨#[]⟩) (.slice none 0 0) (.slice none 0 0)
  obtain ⟨p0, p1, p2, p3, p4, p5, p6, p7, p8, p9⟩ := R0.parts
  go_enter Tryz.func17, Tryz.ntmps17
  go_wp2_with fail
  ((with_reducible refine (KW.out _).mono ?_); rintro e w1 ⟨rfl, hb⟩)
  go_wp2
  go_ret
  exact ⟨rfl, btr (bal (Below.refl _ _) _) hb⟩
/-- Such a number as a value. -/
def leafG (g : Bool) (x : Nat) : VT := .mk ⟨3, g, x, 0, ⟨#[]⟩, none, 0, none, 0, []⟩ []
theorem leafG_in (g : Bool) (x : Nat) (hx : x < 2 ^ 256) (w : World) : (leafG g x).In w :=
  .mk _ _ ⟨⟨by show _ ≤ (3 : Int); omega, by show (3 : Int) ≤ _; omega⟩, hx, ⟨Int.le_refl _, by show (0 : Int) ≤ _; omega⟩, Nat.zero_le _, ⟨Nat.le_refl _, Nat.zero_le _⟩, ⟨Nat.le_refl _, Nat.zero_le _⟩, fun s h => by cases h⟩
    ⟨0, 0, fun h => absurd h (by simp), fun i s h => by simp at h⟩ ⟨0, 0, fun h => absurd h (by simp), fun i s h => by simp at h⟩ (fun i t h => by simp at h)
theorem leafG_q (g : Bool) (x : Nat) (hx : x < 2 ^ 256) (w : World) (hT : Tb w) : Qv (leafG g x) w :=
  ⟨leafG_in g x hx w, hT, .mk _ _ ⟨Nat.zero_le _, fun s h => by cases h⟩ (fun t h => by cases h)⟩
theorem headI_lt (g : Bool) {y : Nat} (hy : y < 18446744073709551616) : headI g y < 2 ^ 256 := by
  have : headI g y ≤ 18446744073709551616 := by unfold headI; split <;> omega
  exact Nat.lt_of_le_of_lt this (by decide)
theorem headI_ok (g : Bool) {y : Nat} (hy : y < 18446744073709551616) : okI g (headI g y) = true := by
  have h := eq5_int g true (headI g y) 0 (headI_lt g hy) (by decide)
  rw [lb_zero, lb_zero, lb_zero, lb_zero] at h
  unfold okI
  rw [h]
  cases g with
  | false => rfl
  | true => simp [headI]
theorem leafG_may (g : Bool) {y : Nat} (hy : y < 18446744073709551616) : mayN (leafG g (headI g y)) = 0 := by
  have ho : outB (leafG g (headI g y)).o 0 = true := by
    show eqO 3 g (lb 0 (headI g y)) (lb 1 (headI g y)) (lb 2 (headI g y)) (lb 3 (headI g y)) 0 ⟨#[]⟩ ((0 : Nat) : Int) ((0 : Nat) : Int) 3 g (lb 0 (headI g y)) (lb 1 (headI g y)) (lb 2 (headI g y)) (lb 3 (headI g y)) 0 ⟨#[]⟩ ((0 : Nat) : Int) ((0 : Nat) : Int) = true
    exact eqO_same _ _ _ _ _ _ _ _ _ _
  have hq : wrongT (leafG g (headI g y)) = false := by
    have : ownB (leafG g (headI g y)).o 0 = true := by
      unfold ownB
      rw [ho]
      show (true && okI g (headI g y)) = true
      rw [headI_ok g hy]; rfl
    show (!ownB (leafG g (headI g y)).o 0) = false
    rw [this]; rfl
  have hd : (leafG g (headI g y)).depth = 1 := by unfold leafG; rw [VT.depth_mk]; rfl
  have hh : ∀ p : VT → Bool, hasT p (leafG g (headI g y)) = p (leafG g (headI g y)) := fun p => by rw [hasT_mk]; simp [leafG]
  unfold mayN
  rw [hd, if_neg (by omega), hh, show overT (leafG g (headI g y)) = false from rfl, if_neg (by simp), hh, hq, if_neg (by simp)]
set_option maxRecDepth 100000 in
set_option maxHeartbeats 4000000 in
theorem renc_int (g : Bool) (y : Nat) (hy : y < 18446744073709551616) (w : World) (hT : Tb w) : Calls Tryz.prog 9 #[V10 3 g (lb 0 (headI g y)) (lb 1 (headI g y)) (lb 2 (headI g y)) (lb 3 (headI g y)) 0 ⟨#[]⟩ none 0 0 none 0 0] w fun e w' => e = .returned (.tuple #[.string (str (intB g (headI g y))), .int .i64 0]) ∧ Below w.heap.size w w' := by
  have KM := Lib.hid (fun W (hW : Below w.heap.size w W) => show Calls Tryz.prog 16 #[V10 3 g (lb 0 (headI g y)) (lb 1 (headI g y)) (lb 2 (headI g y)) (lb 3 (headI g y)) 0 ⟨#[]⟩ none 0 0 none 0 0] W fun e w' => e = .returned (.int .i64 0) ∧ Below W.heap.size W w' from by
    have := r6may_few (leafG g (headI g y)) W (leafG_q g _ (headI_lt g hy) W (tb_on hT hW)) (by unfold leafG; rw [VT.nodes_mk]; decide) (by unfold leafG; rw [VT.depth_mk]; decide) (.mk _ _ ⟨Nat.zero_le _, Nat.zero_le _, fun s h => by cases h⟩ (fun t h => by cases h))
    rw [leafG_may g hy] at this
    exact this)
  have KI := Lib.hid (fun W => ritem_int g y hy W)
  have hl : (str (intB g (headI g y))).size ≤ 9 := by rw [str_size, intB_head g y hy]; exact hds_len _ _
  obtain ⟨S, hS⟩ : ∃ S, str (intB g (headI g y)) = S := ⟨_, rfl⟩
  obtain ⟨x, hx⟩ : ∃ x, headI g y = x := ⟨_, rfl⟩
  rw [hS] at KI hl ⊢
  rw [hx] at KM KI ⊢
  have h65 : ¬ (65536 : Int) < (S.size : Int) := by omega
  clear hS hx hy hT hl
  have R0 := Row10.new w (.int .i64 3) (.bool g) (.int .u64 (lb 0 x)) (.int .u64 (lb 1 x)) (.int .u64 (lb 2 x)) (.int .u64 (lb 3 x)) (.int .u64 0) (.string ⟨#[]⟩) (.slice none 0 0) (.slice none 0 0)
  obtain ⟨p0, p1, p2, p3, p4, p5, p6, p7, p8, p9⟩ := R0.parts
  have B0 := Lib.hid (bal (Below.refl w.heap.size w) (.cells #[.int .i64 3, .bool g, .int .u64 (lb 0 x), .int .u64 (lb 1 x), .int .u64 (lb 2 x), .int .u64 (lb 3 x), .int .u64 0, .string ⟨#[]⟩, .slice none 0 0, .slice none 0 0] 32))
  go_enter Tryz.func9, Tryz.ntmps9
  go_wp2_with fail
  ((with_reducible refine (KM.out _ B0.out).mono ?_); rintro e w1 ⟨rfl, hb⟩)
  have B1 := Lib.hid (btr B0.out hb)
  have R1 := Row10.keep hb R0
  clear hb p0 p1 p2 p3 p4 p5 p6 p7 p8 p9
  obtain ⟨p0, p1, p2, p3, p4, p5, p6, p7, p8, p9⟩ := R1.parts
  go_wp2_with fail
  ((with_reducible refine (KI.out _).mono ?_); rintro e w2 ⟨rfl, hb⟩)
  have B2 := Lib.hid (btr B1.out hb)
  clear hb
  go_wp2
  go_ret2
  exact ⟨rfl, B2.out⟩
end Go.Proofs.YtgcfhoglcdgekaaGreatDoor
