/-
  The reference's Cmp: the contract, for all numbers.
-/
import Derived.Test.YtjlgiejggcbgbaaGreatDoorRefA
import Derived.Deep.QuietTactic
import Derived.BigQuiet
import Derived.Lib.QuietBelow
namespace Go.Proofs.YtjlgiejggcbgbaaGreatDoor
open Go.RowKit Go.Shelf
open Go.Sort (grow)

/-- How two numbers stand to each other. -/
def rcv (x y : Nat) : Int := if x < y then -1 else if y < x then 1 else 0
theorem rcv_lt {x y : Nat} (h : x < y) : rcv x y = -1 := by unfold rcv; rw [if_pos h]
theorem rcv_gt {x y : Nat} (h : y < x) : rcv x y = 1 := by unfold rcv; rw [if_neg (by omega), if_pos h]
theorem rcv_eq (x : Nat) : rcv x x = 0 := by unfold rcv; rw [if_neg (by omega), if_neg (by omega)]
set_option maxHeartbeats 1000000 in
set_option maxRecDepth 100000 in
theorem rcmp_ne (s t : Value) (A B : Option Addr) (n ca m cb x y : Nat) (hne : n ≠ m) (w : World) (hv : (n < m → x < y) ∧ (m < n → y < x))
    (k1 : Calls Tryz.prog 56 #[s] w fun e w' => e = .returned (.slice A n ca) ∧ w' = w)
    (k2 : Calls Tryz.prog 56 #[t] w fun e w' => e = .returned (.slice B m cb) ∧ w' = w) :
    Calls Tryz.prog 48 #[s, t] w fun e w' => e = .returned (.int .i64 (rcv x y)) ∧ Below w.heap.size w w' := by
  have K1 := Lib.hid k1; have K2 := Lib.hid k2; have HV := Lib.hid hv; clear k1 k2 hv
  go_enter Tryz.func48, Tryz.ntmps48
  go_wp2_with fail
  refine K1.out.mono ?_
  rintro e w1 ⟨rfl, hw⟩
  rw [hw]; clear hw w1
  go_wp2_with fail
  refine K2.out.mono ?_
  rintro e w1 ⟨rfl, hw⟩
  rw [hw]; clear hw w1
  by_cases h : n < m
  · go_wp2
    go_ret
    exact ⟨by rw [rcv_lt (HV.out.1 h)]; rfl, Below.refl _ _⟩
  · have h2 : m < n := by omega
    go_wp2
    go_ret
    exact ⟨by rw [rcv_gt (HV.out.2 h2)]; rfl, Below.refl _ _⟩
theorem rcmp_zero (s t : Value) (A B : Option Addr) (ca cb : Nat) (w : World)
    (k1 : Calls Tryz.prog 56 #[s] w fun e w' => e = .returned (.slice A 0 ca) ∧ w' = w)
    (k2 : Calls Tryz.prog 56 #[t] w fun e w' => e = .returned (.slice B 0 cb) ∧ w' = w) :
    Calls Tryz.prog 48 #[s, t] w fun e w' => e = .returned (.int .i64 0) ∧ Below w.heap.size w w' := by
  have K1 := Lib.hid k1; have K2 := Lib.hid k2; clear k1 k2
  go_enter Tryz.func48, Tryz.ntmps48
  go_wp2_with fail
  refine K1.out.mono ?_
  rintro e w1 ⟨rfl, hw⟩
  rw [hw]; clear hw w1
  go_wp2_with fail
  refine K2.out.mono ?_
  rintro e w1 ⟨rfl, hw⟩
  rw [hw]; clear hw w1
  go_wp2
  refine wp_loop_rounds 1 ?_
  rw [rounds_succ]
  go_wp2
  go_ret
  exact ⟨rfl, Below.refl _ _⟩
set_option maxHeartbeats 1000000 in
set_option maxRecDepth 100000 in
theorem rcmp_core (s t : Value) (ba oa ca bb ob cb n x y : Nat) (hn0 : 0 < n) (hn : n ≤ 9223372036854775807) (w : World) (hx : (digs x).length = n) (hy : (digs y).length = n)
    (hba : ba < w.heap.size) (hbb : bb < w.heap.size) (ka : Cs w ba oa (digs x)) (kb : Cs w bb ob (digs y))
    (k1 : Calls Tryz.prog 56 #[s] w fun e w' => e = .returned (.slice (some ⟨ba, oa, none⟩) n ca) ∧ w' = w)
    (k2 : Calls Tryz.prog 56 #[t] w fun e w' => e = .returned (.slice (some ⟨bb, ob, none⟩) n cb) ∧ w' = w) :
    Calls Tryz.prog 48 #[s, t] w fun e w' => e = .returned (.int .i64 (rcv x y)) ∧ Below w.heap.size w w' := by
  have K1 := Lib.hid k1; have K2 := Lib.hid k2; have HX := Lib.hid hx; have HY := Lib.hid hy; have KA := Lib.hid ka; have KB := Lib.hid kb; clear k1 k2 hx hy ka kb
  go_enter Tryz.func48, Tryz.ntmps48
  go_wp2_with fail
  refine K1.out.mono ?_
  rintro e w1 ⟨rfl, hw⟩
  rw [hw]; clear hw w1
  go_wp2_with fail
  refine K2.out.mono ?_
  rintro e w1 ⟨rfl, hw⟩
  rw [hw]; clear hw w1
  go_wp2
  go_loopw [5] (fun i wr => ∃ k : Nat, i = .int .i64 ((k : Int) - 1) ∧ k ≤ n ∧ Hid (x / 2 ^ (32 * k) = y / 2 ^ (32 * k)) ∧ Below w.heap.size w wr)
    (fun i _ => (intOf i + 1).toNat)
  case atStart => exact ⟨n, by (congr 1), Nat.le_refl _, (by show _ = _; rw [Nat.div_eq_of_lt (digs_len.1 (Nat.le_of_eq HX.out)), Nat.div_eq_of_lt (digs_len.1 (Nat.le_of_eq HY.out))]), Below.refl _ _⟩
  case round =>
    obtain ⟨k, rfl, hk, HI, hbw⟩ := hrel
    by_cases h0 : k = 0
    · subst h0
      have hxy : x = y := by have := HI.out; simpa using this
      have HE : Hid (rcv x y = 0) := by show _ = _; rw [hxy]; exact rcv_eq y
      clear hxy
      go_wp2
      go_ret
      exact ⟨by rw [HE.out]; rfl, hbw⟩
    · obtain ⟨j, rfl⟩ : ∃ j, k = j + 1 := ⟨k - 1, by omega⟩
      obtain ⟨a, ha⟩ : ∃ a, a = x / 2 ^ (32 * j) % 4294967296 := ⟨_, rfl⟩
      obtain ⟨b, hb⟩ : ∃ b, b = y / 2 ^ (32 * j) % 4294967296 := ⟨_, rfl⟩
      have q1 : Hid (∀ W, Below w.heap.size w W → W.cell? ⟨ba, oa + j, none⟩ = some (.int .u32 (a : Int)) ∧ W.cell? ⟨bb, ob + j, none⟩ = some (.int .u32 (b : Int))) := fun W hW => by
        constructor
        · rw [hW.cell (p := ⟨ba, oa + j, none⟩) hba, KA.out j (by have := HX.out; omega), digs_get, ha]
        · rw [hW.cell (p := ⟨bb, ob + j, none⟩) hbb, KB.out j (by have := HY.out; omega), digs_get, hb]
      have e1 : (((j + 1 : Nat) : Int) - 1) = (j : Int) := by omega
      have b0 : (0 : Int) ≤ (j : Int) := by omega
      have b1 : (j : Int) < (n : Int) := by omega
      have t1 : ((j : Int)).toNat = j := Int.toNat_natCast j
      rw [e1]
      have H1 : Hid (a < b → rcv x y = -1) := fun h => rcv_lt (cmp_lt HI.out (by rw [← ha, ← hb]; exact h))
      have H2 : Hid (b < a → rcv x y = 1) := fun h => rcv_gt (cmp_lt HI.out.symm (by rw [← ha, ← hb]; exact h))
      have H3 : Hid (a = b → x / 2 ^ (32 * j) = y / 2 ^ (32 * j)) := fun h => cmp_eq HI.out (by rw [← ha, ← hb]; exact h)
      clear ha hb e1
      go_upto_region 9 with (fail)
      obtain ⟨c1, c2⟩ := q1.out _ hbw
      have g1 := cell_regrown c1
      have g2 := cell_regrown c2
      refine wp_region_quiet_below (by kernel_rfl) (by kernel_rfl) ?_
      repeat (first | go_big_quiet_step (fail) | quiet_step (fail))
      refine wpQuiet_nil ?_
      intro _ hw'
      obtain ⟨⟨dq, osq⟩, hw''⟩ := hw'
      subst hw''
      clear g1 g2 c1 c2
      have hb := btr hbw (below_regrown wr dq osq)
      generalize grow (redrawn wr dq) osq = wq at *
      by_cases hab : a < b
      · have hE := H1.out hab
        have HE := Lib.hid hE; clear hE
        go_wp2
        go_ret
        exact ⟨by rw [HE.out]; rfl, hb⟩
      · go_upto_region 11 with (fail)
        obtain ⟨c1, c2⟩ := q1.out _ hb
        have g1 := cell_regrown c1
        have g2 := cell_regrown c2
        refine wp_region_quiet_below (by kernel_rfl) (by kernel_rfl) ?_
        repeat (first | go_big_quiet_step (fail) | quiet_step (fail))
        refine wpQuiet_nil ?_
        intro _ hw'
        obtain ⟨⟨dq2, osq2⟩, hw''⟩ := hw'
        subst hw''
        clear g1 g2 c1 c2
        have hb2 := btr hb (below_regrown wq dq2 osq2)
        generalize grow (redrawn wq dq2) osq2 = wz at *
        by_cases hba2 : b < a
        · have hE := H2.out hba2
          have HE := Lib.hid hE; clear hE
          go_wp2
          go_ret
          exact ⟨by rw [HE.out]; rfl, hb2⟩
        · have HE : Hid (x / 2 ^ (32 * j) = y / 2 ^ (32 * j)) := H3.out (by omega)
          go_wp2
          go_roundw
          case rel => exact ⟨j, by (congr 1), by omega, HE, hb2⟩
          case measure => simp [intOf]
theorem trim_same {s : Value} {x : Nat} {w : World} (h : DR w s x) : ∃ s', DR w s' x ∧ Calls Tryz.prog 56 #[s] w fun e w' => e = .returned s' ∧ w' = w := by
  rcases h with ⟨h, A, c, rfl⟩ | ⟨b, off, c, rfl, hc, hlt, hcs⟩
  · exact ⟨_, .inl ⟨h, A, c, rfl⟩, trim_nil A c w⟩
  · have := trim_some b off c (digs x) hc.1 hc.2 w hcs (digs_sm x)
    rw [dval_digs] at this
    exact ⟨_, .inr ⟨b, off, c, rfl, hc, hlt, hcs⟩, this⟩
theorem rcmp {s t : Value} {x y : Nat} {w : World} (hx : DR w s x) (hy : DR w t y) (lx : (digs x).length ≤ 1000) :
    Calls Tryz.prog 48 #[s, t] w fun e w' => e = .returned (.int .i64 (rcv x y)) ∧ Below w.heap.size w w' := by
  obtain ⟨s', h1, k1⟩ := trim_same hx
  obtain ⟨t', h2, k2⟩ := trim_same hy
  by_cases hl : (digs x).length = (digs y).length
  · by_cases h0 : (digs x).length = 0
    · obtain ⟨A, ca, rfl, _⟩ := h1.form
      obtain ⟨B, cb, rfl, _⟩ := h2.form
      have x0 : x = 0 := by have := digs_len.1 (show (digs x).length ≤ 0 by omega); simpa using this
      have y0 : y = 0 := by have := digs_len.1 (show (digs y).length ≤ 0 by omega); simpa using this
      rw [← hl] at k2
      rw [h0] at k1 k2
      rw [x0, y0, rcv_eq]
      exact rcmp_zero s t A B ca cb w k1 k2
    · rcases h1 with ⟨h, _⟩ | ⟨b, off, c, rfl, hc, hlt, hcs⟩
      · rw [h] at h0; exact absurd rfl h0
      · rcases h2 with ⟨h, _⟩ | ⟨b2, off2, c2, rfl, hc2, hlt2, hcs2⟩
        · rw [h] at hl; exact absurd hl h0
        · rw [← hl] at k2
          exact rcmp_core s t b off c b2 off2 c2 _ x y (by omega) (by omega) w rfl hl.symm hlt hlt2 hcs hcs2 k1 k2
  · obtain ⟨A, ca, rfl, _⟩ := h1.form
    obtain ⟨B, cb, rfl, _⟩ := h2.form
    exact rcmp_ne s t A B _ ca _ cb x y hl w ⟨digs_eq_len, digs_eq_len⟩ k1 k2
end Go.Proofs.YtjlgiejggcbgbaaGreatDoor
