/-
  The reference's Sub: the contract, for all numbers of at most 1000 digits of 32 bits, the first at least the second.
-/
import Derived.Test.YtjlgiejggcbgbaaGreatDoorRefAdd
namespace Go.Proofs.YtjlgiejggcbgbaaGreatDoor
open Go.RowKit Go.Shelf

/-- What holds at the head of Sub's loop: b is what is borrowed. -/
def SubInv (x y k b : Nat) (O : List Nat) : Prop := O.length = k ∧ Sm O ∧ b ≤ 1 ∧ dval O + y % 2 ^ (32 * k) = x % 2 ^ (32 * k) + 2 ^ (32 * k) * b
theorem SubInv.zero (x y : Nat) : SubInv x y 0 0 [] := ⟨rfl, Sm.nil, by omega, by simp [dval, Nat.mod_one]⟩
theorem SubInv.next {x y k b : Nat} {O : List Nat} (h : SubInv x y k b O) {p q d b' : Nat} (hp : p = x / 2 ^ (32 * k) % 4294967296) (hq : q = y / 2 ^ (32 * k) % 4294967296) (hd : d < 4294967296) (hb : b' ≤ 1) (e : d + q + b = p + 4294967296 * b') :
    SubInv x y (k + 1) b' (O ++ [d]) := by
  obtain ⟨h1, h2, h3, h4⟩ := h
  refine ⟨by simp [h1], h2.app (Sm.one hd), hb, ?_⟩
  rw [dval_app, h1]
  have := sub_step (v := dval O) (d := d) (b' := b') h4 (by rw [← hp, ← hq]; exact e)
  simp only [dval]
  rw [Nat.mul_zero, Nat.add_zero]
  exact this
theorem SubInv.stop {x y k b : Nat} {O : List Nat} (h : SubInv x y k b O) (hx : (digs x).length ≤ k) (hyx : y ≤ x) : dval O = x - y := by
  obtain ⟨h1, h2, _, h4⟩ := h
  exact sub_end hyx (digs_len.1 hx) (by rw [← h1]; exact dval_lt h2) h4

set_option maxHeartbeats 1000000 in
set_option maxRecDepth 100000 in
theorem rsub_core (A B : Option Addr) (n ca m cb x y : Nat) (hn : n = (digs x).length) (hn1 : n ≤ 1000) (hyx : y ≤ x) (w : World)
    (hx : DR w (.slice A n ca) x) (hy : DR w (.slice B m cb) y) :
    Calls Tryz.prog 54 #[.slice A n ca, .slice B m cb] w fun e w' => ∃ s', e = .returned s' ∧ DR w' s' (x - y) ∧ Below w.heap.size w w' := by
  obtain ⟨i0, hi, hz0, hz1, hz2⟩ := info_parts info_u32
  have HN := Lib.hid hn; have HX := Lib.hid hx; have HY := Lib.hid hy; have HXY := Lib.hid hyx; clear hn hx hy hyx
  go_enter Tryz.func54, Tryz.ntmps54
  go_wp2
  go_loopw [5, 6, 7] (fun v c i wr => ∃ (k b : Nat) (O : List Nat), c = .int .i64 (-(b : Int)) ∧ i = .int .i64 (k : Int) ∧ k ≤ n ∧ Hid (SubInv x y k b O) ∧ wr.ownsRow w.heap.size 68 1 v k (U32s O) ∧ Below w.heap.size w wr)
    (fun _ _ i _ => n - (intOf i).toNat)
  case atStart => exact ⟨0, 0, [], rfl, rfl, by omega, SubInv.zero x y, World.ownsRow_nil _ _ _ _, Below.refl _ _⟩
  case round =>
    obtain ⟨k, b, O, rfl, rfl, hk, HI, hown, hbw⟩ := hrel
    have hbb : b ≤ 1 := HI.out.2.2.1
    obtain ⟨p, hp⟩ : ∃ p, p = x / 2 ^ (32 * k) % 4294967296 := ⟨_, rfl⟩
    obtain ⟨q, hq⟩ : ∃ q, q = y / 2 ^ (32 * k) % 4294967296 := ⟨_, rfl⟩
    have hp1 : p < 4294967296 := by omega
    have hq1 : q < 4294967296 := by omega
    have cA := at_dr (HX.out.keep hbw) (k : Int) (by omega)
    have cB := at_dr (HY.out.keep hbw) (k : Int) (by omega)
    rw [Int.toNat_natCast, ← hp] at cA
    rw [Int.toNat_natCast, ← hq] at cB
    have CA := Lib.hid cA; have CB := Lib.hid cB; have HP := Lib.hid hp; have HQ := Lib.hid hq; clear cA cB hp hq
    by_cases h1 : k < n
    · go_wp2_with fail
      refine CA.out.mono ?_
      rintro e w1 ⟨rfl, hw⟩
      rw [hw]; clear hw w1
      go_wp2_with fail
      refine CB.out.mono ?_
      rintro e w1 ⟨rfl, hw⟩
      rw [hw]; clear hw w1
      go_wp2_with (at_builtin; refine wpList_append_own _ rfl (.tmp 25) (.tmp 28) 57 rfl w.heap.size 68 i0 (.int .u32 0) 1 4 und_d hi hz0 hz1 hz2 rfl (by decide) _ k _ rfl (hown.alloc _) ⟨wr.heap.size, 0, none⟩ 1 1 [.int .u32 ((-(b : Int) + (p : Int) - (q : Int)) % 4294967296)] rfl rfl (cell_new1 _ _ _) (one_new1 _ _) (by unfold maxLen; omega) (by omega) (by simp; have := hbw.size; omega) ?_; intro v' w1 hown' hgrow _)
      obtain ⟨d, hd⟩ : ∃ d : Nat, (d : Int) = (-(b : Int) + (p : Int) - (q : Int)) % 4294967296 := ⟨((-(b : Int) + (p : Int) - (q : Int)) % 4294967296).toNat, by omega⟩
      obtain ⟨b', hb'⟩ : ∃ b' : Nat, -(b' : Int) = (-(b : Int) + (p : Int) - (q : Int)) / 4294967296 := ⟨(-((-(b : Int) + (p : Int) - (q : Int)) / 4294967296)).toNat, by omega⟩
      have hown2 : w1.ownsRow w.heap.size 68 1 v' (k + 1) (U32s (O ++ [d])) := by
        rw [U32s_snoc O _ _ hd]
        exact hown'
      have hb1 : Below w.heap.size w w1 := (hbw.alloc hbw.size _).grown hgrow (by simp; have := hbw.size; omega) (fun q hq => hown.lt q hq |>.1)
      have HNX : Hid (SubInv x y (k + 1) b' (O ++ [d])) := HI.out.next HP.out HQ.out (by omega) (by omega) (by omega)
      have HB' := Lib.hid hb'
      clear hown' hgrow hown hd hb'
      go_wp2
      go_roundw
      case rel => exact ⟨k + 1, b', O ++ [d], by rw [HB'.out], by go_num, by omega, HNX, hown2, hb1⟩
      case measure => simp [intOf]; omega
    · have hv := HI.out.stop (by rw [← HN.out]; omega) HXY.out
      have hl : O.length = k := HI.out.1
      have hrd := rd_own (l := O) (by rw [hl]; exact hown)
      have ht := trim_dr hrd HI.out.2.1
      rw [hv] at ht
      have HT := Lib.hid ht
      clear ht hv hl hrd
      go_wp2_with fail
      refine HT.out.mono ?_
      rintro e w1 ⟨s', rfl, hr, hw⟩
      rw [hw]; clear hw w1
      go_wp2
      go_ret
      exact ⟨s', rfl, hr, hbw⟩
end Go.Proofs.YtjlgiejggcbgbaaGreatDoor
