/-
  The reference's Shift to lesser numbers: the contract, for all numbers of at most 1000 digits of 32 bits, for places up to 40000.
-/
import Derived.Test.YtfbkifcgdkgllaaDoorRefPow
import Derived.Deep.AppendLies
namespace Go.Proofs.YtfbkifcgdkgllaaDoor
open Go.RowKit Go.Shelf

theorem own_blk {W : World} {base g n cap : Nat} {O : List Nat} (h : W.ownsRow base 63 1 (.slice (some ⟨g, 0, none⟩) n cap) n (U32s O)) (hn : 0 < n) :
    base ≤ g ∧ ∃ cur : Array Value, W.heap[g]? = some (.cells cur 63 (0, 0)) ∧ n ≤ cap ∧ cap ≤ maxLen ∧ cur.size = cap * 1 ∧ cur.toList.take (n * 1) = U32s O := by
  obtain ⟨_, h⟩ := h
  rcases h with ⟨_, h0⟩ | ⟨g2, cap2, cur, e, hb, hh, h1, h2, h3, h4⟩
  · omega
  · injection e with e1 e2 e3
    injection e1 with e1
    injection e1 with e1
    subst e1 e3
    exact ⟨hb, cur, hh, h1, h2, h3, h4⟩
theorem own_cell {W : World} {base g n cap : Nat} {O : List Nat} (h : W.ownsRow base 63 1 (.slice (some ⟨g, 0, none⟩) n cap) n (U32s O)) (hl : O.length = n) {i : Nat} (hi : i < n) :
    W.cell? ⟨g, i, none⟩ = some (.int .u32 ((O.getD i 0 : Nat) : Int)) ∧ W.frozen? ⟨g, i, none⟩ = false := by
  obtain ⟨_, cur, hh, _, _, _, h4⟩ := own_blk h (by omega)
  refine ⟨?_, frozen_of_row W g i _ _ hh⟩
  rw [cell_of_row W g i _ _ _ hh]
  have e := U32s_at (O := O) (i := i) (by omega)
  rw [← h4, Nat.mul_one, List.getElem?_take, if_pos hi] at e
  rw [← e]; simp
theorem own_set {W : World} {base g n cap : Nat} {O : List Nat} (h : W.ownsRow base 63 1 (.slice (some ⟨g, 0, none⟩) n cap) n (U32s O)) (hl : O.length = n) {i d : Nat} (hi : i < n) (z : Int) (e : (d : Int) = z) :
    (W.setCell ⟨g, i, none⟩ (.int .u32 z)).ownsRow base 63 1 (.slice (some ⟨g, 0, none⟩) n cap) n (U32s (O.set i d)) := by
  obtain ⟨hb, cur, hh, h1, h2, h3, h4⟩ := own_blk h (by omega)
  refine ⟨by simp [U32s, hl], .inr ⟨g, cap, cur.setIfInBounds i (.int .u32 z), rfl, hb, heap_setCell_same W g i _ _ _ hh, h1, h2, by simp [h3], ?_⟩⟩
  rw [Array.toList_setIfInBounds, List.take_set, h4, ← e]
  simp [U32s, List.map_set]
/-- What holds at the head of Shift's loop, t places on. -/
def ShrInv (y t : Nat) (O : List Nat) : Prop := O.length = (t + 31) / 32 ∧ Sm O ∧ dval O = y % 2 ^ t
theorem ShrInv.zero (y : Nat) : ShrInv y 0 [] := ⟨rfl, Sm.nil, by simp [dval, Nat.mod_one]⟩
theorem mod_bit (y t : Nat) : y % 2 ^ (t + 1) = y % 2 ^ t + 2 ^ t * (y / 2 ^ t % 2) := by rw [Nat.pow_succ, Nat.mod_mul]
theorem bit_mod {y t : Nat} : (y.testBit t = true → y / 2 ^ t % 2 = 1) ∧ (y.testBit t = false → y / 2 ^ t % 2 = 0) := by
  rw [Nat.testBit_eq_decide_div_mod_eq]
  constructor
  · intro h; exact of_decide_eq_true h
  · intro h; have := of_decide_eq_false h; omega
/-- A digit more, where one begins. -/
theorem ShrInv.more {y t : Nat} {O : List Nat} (h : ShrInv y t O) : (O ++ [0]).length = O.length + 1 ∧ Sm (O ++ [0]) ∧ dval (O ++ [0]) = y % 2 ^ t :=
  ⟨by simp, h.2.1.app (Sm.one (by decide)), by rw [trim_zero rfl]; exact h.2.2⟩
theorem shr_no {y t q : Nat} {P : List Nat} (hl : P.length = q + 1) (hq : q = t / 32) (hs : Sm P) (hv : dval P = y % 2 ^ t) (hb : y.testBit t = false) : ShrInv y (t + 1) P :=
  ⟨by omega, hs, by rw [mod_bit, bit_mod.2 hb, Nat.mul_zero, Nat.add_zero]; exact hv⟩
theorem shr_digit {y t q r : Nat} {P : List Nat} (hq : q = t / 32) (hr : r = t % 32) (hv : dval P = y % 2 ^ t) : P.getD q 0 < 2 ^ r := by
  have g := dval_ge P q
  have hm : y % 2 ^ t < 2 ^ t := Nat.mod_lt _ (Nat.two_pow_pos t)
  rw [hv] at g
  have e : 2 ^ t = 2 ^ (32 * q) * 2 ^ r := by rw [← Nat.pow_add]; congr 1; omega
  rw [e] at hm g
  exact Nat.lt_of_mul_lt_mul_left (Nat.lt_of_le_of_lt g hm)
theorem shr_yes {y t q r : Nat} {P : List Nat} (hl : P.length = q + 1) (hq : q = t / 32) (hr : r = t % 32) (hs : Sm P) (hv : dval P = y % 2 ^ t) (hb : y.testBit t = true) : ShrInv y (t + 1) (P.set q (P.getD q 0 + 2 ^ r)) := by
  have hd := shr_digit hq hr hv
  have h32 : 2 ^ r * 2 ≤ 4294967296 := by
    have : 2 ^ (r + 1) ≤ 2 ^ 32 := Nat.pow_le_pow_right (by decide) (by omega)
    rw [Nat.pow_succ] at this
    exact this
  refine ⟨by rw [List.length_set]; omega, hs.set _ (by omega), ?_⟩
  have e := dval_set P q (P.getD q 0 + 2 ^ r) (by omega)
  rw [mod_bit, bit_mod.1 hb, Nat.mul_one, ← hv]
  have e2 : 2 ^ t = 2 ^ (32 * q) * 2 ^ r := by rw [← Nat.pow_add]; congr 1; omega
  rw [e2]
  rw [Nat.mul_add] at e
  omega
theorem ShrInv.stop {y t : Nat} {O : List Nat} (h : ShrInv y t O) (hy : y < 2 ^ t) : dval O = y := by rw [h.2.2, Nat.mod_eq_of_lt hy]
theorem or_digit {d r : Nat} (hd : d < 2 ^ r) (hr : r < 32) : bits .or .u32 (d : Int) (IntKind.u32.wrap (2 ^ r)) = ((d + 2 ^ r : Nat) : Int) := by
  have h1 : 2 ^ r < 4294967296 := by
    have : 2 ^ r < 2 ^ 32 := Nat.pow_lt_pow_right (by decide) hr
    exact this
  have hw : IntKind.u32.wrap ((2 : Int) ^ r) = ((2 ^ r : Nat) : Int) := by
    rw [IntKind.wrap_u32']
    have : (2 : Int) ^ r = ((2 ^ r : Nat) : Int) := by rw [Int.natCast_pow]; rfl
    rw [this]
    generalize 2 ^ r = P at h1
    omega
  rw [hw, u32_or_nat d (2 ^ r) (by omega) h1]
  have h2 := Nat.two_pow_add_eq_or_of_lt (i := r) (b := d) hd 1
  rw [Nat.mul_one] at h2
  rw [Nat.or_comm, ← h2, Nat.add_comm]
set_option maxHeartbeats 2000000 in
set_option maxRecDepth 100000 in
theorem rshr_core (A : Option Addr) (n c x K : Nat) (hn : n = (digs x).length) (hn1 : n ≤ 1000) (hK0 : 0 < K) (hK : K ≤ 40000) (w : World) (h : DR w (.slice A n c) x) :
    Calls Tryd.prog 13 #[.slice A n c, .int .i64 (-(K : Int))] w fun e w' => ∃ s', e = .returned s' ∧ DR w' s' (x / 2 ^ K) ∧ Below w.heap.size w w' := by
  obtain ⟨i0, hi, hz0, hz1, hz2⟩ := info_parts info_u32
  obtain ⟨y, hy⟩ : ∃ y, y = x / 2 ^ K := ⟨_, rfl⟩
  rw [← hy]
  have HN := Lib.hid hn; have HX := Lib.hid h; have HY := Lib.hid hy; clear hn h hy
  have hneg : -(K : Int) < 0 := by omega
  have hd9 : decide (K = 0) = false := decide_eq_false (by omega)
  go_enter Tryd.func13, Tryd.ntmps13
  go_wp2
  go_loopw [5, 6] (fun v i wr => ∃ (t j : Nat) (O : List Nat) (A0 : Option Addr) (c0 : Nat), i = .int .i64 (j : Int) ∧ Hid (j = K + t) ∧ (t = 0 ∨ j ≤ 32 * n) ∧ v = .slice A0 O.length c0 ∧ Hid (ShrInv y t O) ∧ wr.ownsRow w.heap.size 63 1 (.slice A0 O.length c0) O.length (U32s O) ∧ Below w.heap.size w wr)
    (fun _ i _ => 32 * n - (intOf i).toNat)
  case atStart => exact ⟨0, K, [], none, 0, rfl, rfl, .inl rfl, rfl, ShrInv.zero y, World.ownsRow_nil _ _ _ _, Below.refl _ _⟩
  case round =>
    obtain ⟨t, i, O, A0, c0, rfl, HIE0, ht, rfl, HI, hown, hbw⟩ := hrel
    have hie : i = K + t := HIE0.out
    clear HIE0
    by_cases h1 : i < 32 * n
    · have hj : (i : Int) + -(K : Int) = (t : Int) := by omega
      obtain ⟨q, hq⟩ : ∃ q, q = t / 32 := ⟨_, rfl⟩
      obtain ⟨r, hr⟩ : ∃ r, r = t % 32 := ⟨_, rfl⟩
      have hq2 : (t : Int) / 32 = (q : Int) := by omega
      have hr2 : (t : Int) % 32 = (r : Int) := by omega
      have hq1000 : q ≤ 1000 := by omega
      have HC : Hid (∀ W, Below w.heap.size w W → Calls Tryd.prog 22 #[.slice A n c, .int .i64 (i : Int)] W fun e w' => e = .returned (.bool (y.testBit t)) ∧ w' = W) := fun W hW => by
        have hc := rbit (HX.out.keep hW) (i : Int) (by omega)
        have e1 : bitv x (i : Int) = y.testBit t := by
          unfold bitv
          rw [decide_eq_true (by omega), Bool.true_and, Int.toNat_natCast, HY.out, Nat.testBit_div_two_pow, hie, Nat.add_comm]
        rw [e1] at hc
        exact hc
      have hlen : O.length = (t + 31) / 32 := HI.out.1
      by_cases hr0 : r = 0
      · have hlq : O.length = q := by omega
        rw [hlq] at hown ⊢
        obtain ⟨m1, m2, m3⟩ := HI.out.more
        have HIE := Lib.hid hie; have HQ := Lib.hid hq; have HRR := Lib.hid hr; have HLQ := Lib.hid hlq; have HM := Lib.hid m3; have HM1 := Lib.hid m1
        clear hie hq hr hlq hlen m3 m1 hr0
        go_wp2
        refine wp_loop_rounds 2 ?_
        rw [rounds_succ]
        go_wp2_with (at_builtin; refine wpList_append_lies _ rfl (.tmp 31) (.tmp 32) 26 rfl w.heap.size 63 i0 (.int .u32 0) 1 4 und_d hi hz0 hz1 hz2 rfl (by decide) _ q _ rfl (hown.alloc _) ⟨wr.heap.size, 0, none⟩ 1 1 [.int .u32 0] rfl rfl (cell_new1 _ _ _) (one_new1 _ _) (by decide) (by unfold maxLen; omega) (by omega) (by simp; have := hbw.size; omega) _ rfl ?_; intro g cap w2 hown1 hgrow hat hlt)
        obtain ⟨P, hP⟩ : ∃ P, P = O ++ [0] := ⟨_, rfl⟩
        have own2 : w2.ownsRow w.heap.size 63 1 (.slice (some ⟨g, 0, none⟩) (q + 1) cap) (q + 1) (U32s P) := by
          rw [hP, U32s_snoc O 0 0 rfl]
          exact hown1
        have hb2 : Below w.heap.size w w2 := (hbw.alloc hbw.size _).grown hgrow (by simp; have := hbw.size; omega) (fun k hk => (hown.lt k hk).1)
        have hPl : P.length = q + 1 := by rw [hP, HM1.out, HLQ.out]
        have hPs : Sm P := by rw [hP]; exact m2
        have hPv := HM.out
        rw [← hP] at hPv
        have HPl := Lib.hid hPl; have HPv := Lib.hid hPv
        clear hown1 hgrow hown hat hlt m2 hP hPl hPv HM HM1
        rw [rounds_succ]
        have t1 : ((q : Int)).toNat = q := Int.toNat_natCast q
        have t2 : ((r : Int)).toNat = r := Int.toNat_natCast r
        have b0 : (0 : Int) ≤ (q : Int) := by omega
        have b1 : (q : Int) < ((q + 1 : Nat) : Int) := by omega
        have b2 : (0 : Int) ≤ (r : Int) := by omega
        have b3 : (r : Int) ≤ 32 := by have := HRR.out; omega
        cases hb : y.testBit t with
        | false =>
          have hNX := shr_no HPl.out HQ.out hPs HPv.out hb
          have HNX := Lib.hid hNX; have HC2 := Lib.hid (HC.out _ hb2)
          rw [hb] at HC2
          have HPL := HPl
          clear hNX hPs hb ht
          go_wp2_with fail
          (with_reducible refine HC2.out.mono ?_)
          rintro e w3 ⟨rfl, hw⟩
          rw [hw]; clear hw w3
          go_wp2
          go_roundw
          case rel => exact ⟨t + 1, i + 1, P, some ⟨g, 0, none⟩, cap, by go_num, (by show _ = _; have := HIE.out; omega), .inr (by omega), by rw [HPL.out], HNX.out, by rw [HPL.out]; exact own2, hb2⟩
          case measure => simp [intOf]; have := HIE.out; omega
        | true =>
          have hNX := shr_yes HPl.out HQ.out HRR.out hPs HPv.out hb
          obtain ⟨cq, fq⟩ := own_cell own2 HPl.out (i := q) (by omega)
          have hd := shr_digit HQ.out HRR.out HPv.out
          have ho := or_digit hd (show r < 32 by have := HRR.out; omega)
          have hs2 : ∀ z : Int, ((P.getD q 0 + 2 ^ r : Nat) : Int) = z → _ := fun z hz => own_set own2 HPl.out (i := q) (d := P.getD q 0 + 2 ^ r) (by omega) z hz
          obtain ⟨z, hz⟩ : ∃ z : Int, z = ((P.getD q 0 + 2 ^ r : Nat) : Int) := ⟨_, rfl⟩
          rw [← hz] at ho
          have ho2 := ho
          rw [IntKind.wrap_u32'] at ho2
          have own3 := hs2 z hz.symm
          have HNX := Lib.hid hNX; have HC2 := Lib.hid (HC.out _ hb2)
          rw [hb] at HC2
          have HO3 := Lib.hid own3
          have hPl2 : (P.set q (P.getD q 0 + 2 ^ r)).length = q + 1 := by rw [List.length_set]; exact HPl.out
          have HPL := Lib.hid hPl2
          have hgb := (own_blk own2 (by omega)).1
          generalize P.getD q 0 = d at *
          clear hNX hPs hb ht hd hs2 hz own3 hPl2 HPv HPl
          go_wp2_with fail
          (with_reducible refine HC2.out.mono ?_)
          rintro e w3 ⟨rfl, hw⟩
          rw [hw]; clear hw w3
          go_wp2
          go_roundw
          case rel => exact ⟨t + 1, i + 1, P.set q (d + 2 ^ r), some ⟨g, 0, none⟩, cap, by go_num, (by show _ = _; have := HIE.out; omega), .inr (by omega), by rw [HPL.out], HNX.out, by rw [HPL.out]; exact HO3.out, bsc hb2 hgb _⟩
          case measure => simp [intOf]; have := HIE.out; omega
      · have hlq : O.length = q + 1 := by omega
        obtain ⟨g, cap, hA, _, _⟩ := hown.form (by omega)
        injection hA with hA hA1 hA2
        subst hA hA2
        rw [hlq] at hown ⊢
        obtain ⟨P, hP⟩ : ∃ P, P = O := ⟨_, rfl⟩
        have own2 := hown
        rw [← hP] at own2
        have hb2 := hbw
        have hPl : P.length = q + 1 := by rw [hP]; exact hlq
        have hPs : Sm P := by rw [hP]; exact HI.out.2.1
        have hPv : dval P = y % 2 ^ t := by rw [hP]; exact HI.out.2.2
        have HIE := Lib.hid hie; have HQ := Lib.hid hq; have HRR := Lib.hid hr; have HPl := Lib.hid hPl; have HPv := Lib.hid hPv
        clear hlq hlen hown hbw hP hie hq hr hPl hPv hr0
        go_wp2
        refine wp_loop_rounds 1 ?_
        rw [rounds_succ]
        have t1 : ((q : Int)).toNat = q := Int.toNat_natCast q
        have t2 : ((r : Int)).toNat = r := Int.toNat_natCast r
        have b0 : (0 : Int) ≤ (q : Int) := by omega
        have b1 : (q : Int) < ((q + 1 : Nat) : Int) := by omega
        have b2 : (0 : Int) ≤ (r : Int) := by omega
        have b3 : (r : Int) ≤ 32 := by have := HRR.out; omega
        cases hb : y.testBit t with
        | false =>
          have hNX := shr_no HPl.out HQ.out hPs HPv.out hb
          have HNX := Lib.hid hNX; have HC2 := Lib.hid (HC.out _ hb2)
          rw [hb] at HC2
          have HPL := HPl
          clear hNX hPs hb ht
          go_wp2_with fail
          (with_reducible refine HC2.out.mono ?_)
          rintro e w3 ⟨rfl, hw⟩
          rw [hw]; clear hw w3
          go_wp2
          go_roundw
          case rel => exact ⟨t + 1, i + 1, P, some ⟨g, 0, none⟩, c0, by go_num, (by show _ = _; have := HIE.out; omega), .inr (by omega), by rw [HPL.out], HNX.out, by rw [HPL.out]; exact own2, hb2⟩
          case measure => simp [intOf]; have := HIE.out; omega
        | true =>
          have hNX := shr_yes HPl.out HQ.out HRR.out hPs HPv.out hb
          obtain ⟨cq, fq⟩ := own_cell own2 HPl.out (i := q) (by omega)
          have hd := shr_digit HQ.out HRR.out HPv.out
          have ho := or_digit hd (show r < 32 by have := HRR.out; omega)
          have hs2 : ∀ z : Int, ((P.getD q 0 + 2 ^ r : Nat) : Int) = z → _ := fun z hz => own_set own2 HPl.out (i := q) (d := P.getD q 0 + 2 ^ r) (by omega) z hz
          obtain ⟨z, hz⟩ : ∃ z : Int, z = ((P.getD q 0 + 2 ^ r : Nat) : Int) := ⟨_, rfl⟩
          rw [← hz] at ho
          have ho2 := ho
          rw [IntKind.wrap_u32'] at ho2
          have own3 := hs2 z hz.symm
          have HNX := Lib.hid hNX; have HC2 := Lib.hid (HC.out _ hb2)
          rw [hb] at HC2
          have HO3 := Lib.hid own3
          have hPl2 : (P.set q (P.getD q 0 + 2 ^ r)).length = q + 1 := by rw [List.length_set]; exact HPl.out
          have HPL := Lib.hid hPl2
          have hgb := (own_blk own2 (by omega)).1
          generalize P.getD q 0 = d at *
          clear hNX hPs hb ht hd hs2 hz own3 hPl2 HPv HPl
          go_wp2_with fail
          (with_reducible refine HC2.out.mono ?_)
          rintro e w3 ⟨rfl, hw⟩
          rw [hw]; clear hw w3
          go_wp2
          go_roundw
          case rel => exact ⟨t + 1, i + 1, P.set q (d + 2 ^ r), some ⟨g, 0, none⟩, c0, by go_num, (by show _ = _; have := HIE.out; omega), .inr (by omega), by rw [HPL.out], HNX.out, by rw [HPL.out]; exact HO3.out, bsc hb2 hgb _⟩
          case measure => simp [intOf]; have := HIE.out; omega
    · have hs : y < 2 ^ t := by
        rw [HY.out]
        have hx := digs_len.1 (Nat.le_of_eq HN.out.symm)
        apply Nat.div_lt_of_lt_mul
        rw [← Nat.pow_add]
        exact Nat.lt_of_lt_of_le hx (Nat.pow_le_pow_right (by decide) (by omega))
      have hv := HI.out.stop hs
      have hrd := rd_own (l := O) hown
      have htr := trim_dr hrd HI.out.2.1
      rw [hv] at htr
      have HT := Lib.hid htr
      clear htr hv hrd hs ht hie
      go_wp2_with fail
      (with_reducible refine HT.out.mono ?_)
      rintro e w1 ⟨s', rfl, hr, hw⟩
      rw [hw]; clear hw w1
      go_wp2
      go_ret
      exact ⟨s', rfl, hr, hbw⟩
theorem rshr {s : Value} {x : Nat} {w : World} (h : DR w s x) (lx : (digs x).length ≤ 1000) (K : Nat) (hK0 : 0 < K) (hK : K ≤ 40000) :
    Calls Tryd.prog 13 #[s, .int .i64 (-(K : Int))] w fun e w' => ∃ s', e = .returned s' ∧ DR w' s' (x / 2 ^ K) ∧ Below w.heap.size w w' := by
  obtain ⟨A, c, rfl, _⟩ := h.form
  exact rshr_core A _ c x K rfl lx hK0 hK w h
/-- A number by a power of two, of either sign. -/
def shv (x : Nat) (k : Int) : Nat := if 0 ≤ k then x * 2 ^ k.toNat else x / 2 ^ (-k).toNat
theorem rshift {s : Value} {x : Nat} {w : World} (h : DR w s x) (lx : (digs x).length ≤ 1000) (k : Int) (h0 : -30000 ≤ k) (h1 : k ≤ 30000) :
    Calls Tryd.prog 13 #[s, .int .i64 k] w fun e w' => ∃ s', e = .returned s' ∧ DR w' s' (shv x k) ∧ Below w.heap.size w w' := by
  unfold shv
  by_cases hk : 0 ≤ k
  · rw [if_pos hk]
    obtain ⟨j, rfl⟩ := Int.eq_ofNat_of_zero_le hk
    rw [Int.toNat_natCast]
    exact rshl h lx j (by omega)
  · rw [if_neg hk]
    obtain ⟨j, hj⟩ := Int.eq_ofNat_of_zero_le (show 0 ≤ -k by omega)
    have e : k = -(j : Int) := by omega
    rw [hj, Int.toNat_natCast, e]
    exact rshr h lx j (by omega) (by omega)
end Go.Proofs.YtfbkifcgdkgllaaDoor
