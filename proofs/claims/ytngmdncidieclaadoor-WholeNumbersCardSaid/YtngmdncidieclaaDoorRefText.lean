/-
  The reference's Print, Digits, Parse: the contracts, for all numbers of at most 1000 digits of 32 bits, all texts of at most 500 bytes.
-/
import Derived.Test.YtngmdncidieclaaDoorRefLess
import Derived.Test.YtngmdncidieclaaDoorRefApi
import Derived.Test.YtngmdncidieclaaDoorRefNat
import Derived.Test.YtngmdncidieclaaDoorDecMath
import Derived.Test.YtngmdncidieclaaDoorNatStr
import Derived.Test.YtngmdncidieclaaDoorNatParse
namespace Go.Proofs.YtngmdncidieclaaDoor
open Go.RowKit Go.Shelf

theorem digs_le {x y k : Nat} (h : y ≤ x) (hx : (digs x).length ≤ k) : (digs y).length ≤ k := digs_len.2 (Nat.lt_of_le_of_lt h (digs_len.1 hx))
theorem digs_some {x : Nat} (h : x ≠ 0) : 0 < (digs x).length := by rw [digs_pos h]; simp
/-- One byte as a text. -/
theorem byte_str (z : Nat) (Z : Int) (e : Z = (z : Int)) (W : World) : (convert 87 9 (.slice (some ⟨W.heap.size, 0, none⟩) 1 1)).run Tryd.prog (W.alloc (.cells #[.int .u8 Z] 5)) = .ok (.string ⟨#[UInt8.ofNat z]⟩) (W.alloc (.cells #[.int .u8 Z] 5)) := by
  subst e
  have h := run_convert_bytes_arg (P := Tryd.prog) (W.alloc (.cells #[.int .u8 (z : Int)] 5)) 87 5 (by kernel_rfl) (by kernel_rfl) W.heap.size 0 1 1 [(z : Int)] rfl (fun i hi => by
    obtain rfl : i = 0 := by omega
    exact cell_of_row _ W.heap.size 0 _ _ _ (heap_alloc_new W _)) 9 (by kernel_rfl)
  rw [h]
  rfl
/-- What stands at the head of Print's loop. -/
def PrAt (x y : Nat) (p : ByteArray) : Prop := if y = 0 then p.data.toList = Lib.decDigits x else Lib.decDigits x = Lib.decDigits y ++ p.data.toList
theorem PrAt.start {x : Nat} (h : x ≠ 0) : PrAt x x ⟨#[]⟩ := by unfold PrAt; rw [if_neg h]; simp
theorem PrAt.size {x y : Nat} {p : ByteArray} (h : PrAt x y p) (h0 : y ≠ 0) : p.size < (Lib.decDigits x).length := by
  unfold PrAt at h
  rw [if_neg h0] at h
  rw [h, List.length_append]
  have := dec_pos y
  have e : p.data.toList.length = p.size := by simp
  omega
theorem PrAt.next {x y : Nat} {p : ByteArray} (h : PrAt x y p) (h0 : y ≠ 0) : PrAt x (y / 10) (⟨#[UInt8.ofNat (48 + y % 10)]⟩ ++ p) := by
  unfold PrAt at h ⊢
  rw [if_neg h0] at h
  have e : (⟨#[UInt8.ofNat (48 + y % 10)]⟩ ++ p : ByteArray).data.toList = UInt8.ofNat (48 + y % 10) :: p.data.toList := by simp
  rw [e]
  by_cases h10 : y < 10
  · rw [if_pos (by omega)]; exact (dec_last y h10 _ _ h).symm
  · rw [if_neg (by omega)]; exact dec_cons y (by omega) _ _ h
theorem PrAt.stop {x : Nat} {p : ByteArray} (h : PrAt x 0 p) : p = dstr x := by
  unfold PrAt at h
  rw [if_pos rfl] at h
  exact dstr_of h
theorem dec_of_digs {x k : Nat} (hk : 1 ≤ k) (h : (digs x).length ≤ k) : (Lib.decDigits x).length ≤ 32 * k :=
  dec_len (by omega) (Nat.lt_of_lt_of_le (digs_len.1 h) (Nat.pow_le_pow_left (by decide) (32 * k)))
theorem dec_short {x : Nat} (lx : (digs x).length ≤ 1000) : (Lib.decDigits x).length ≤ 32000 := dec_of_digs (k := 1000) (by decide) lx
theorem digs_of_ten {k n x : Nat} (hx : x < 10 ^ k) (hk : 4 * k ≤ 32 * n) : (digs x).length ≤ n :=
  digs_len.2 (Nat.lt_of_lt_of_le hx (Nat.le_trans (ten_pow_le k) (Nat.pow_le_pow_right (by decide) hk)))
set_option maxHeartbeats 1000000 in
set_option maxRecDepth 100000 in
theorem rprint_core (A0 : Option Addr) (c0 n0 x : Nat) (hn : n0 = (digs x).length) (h0 : x ≠ 0) (lx : (digs x).length ≤ 1000) (w : World) (h : DR w (.slice A0 n0 c0) x) :
    Calls Tryd.prog 27 #[.slice A0 n0 c0] w fun e w' => e = .returned (.string (dstr x)) ∧ Below w.heap.size w w' := by
  obtain ⟨L, hL⟩ : ∃ L, L = (Lib.decDigits x).length := ⟨_, rfl⟩
  have hLs : L ≤ 32000 := by rw [hL]; exact dec_short lx
  obtain ⟨s0, hd0, ht⟩ := trim_keep h
  obtain ⟨A1, c1, rfl, _⟩ := hd0.form
  have hnz : (((digs x).length : Int) == 0) = false := by have := digs_some h0; rw [beq_eq_false_iff_ne]; omega
  obtain ⟨n1, hn1⟩ : ∃ n1, n1 = (digs x).length := ⟨_, rfl⟩
  rw [← hn1] at ht hd0 hnz
  have HT := Lib.hid ht; have HX := Lib.hid h; have HN := Lib.hid hn; have HL := Lib.hid hL; have H0 := Lib.hid h0; have LX := Lib.hid lx; clear ht h hn hL h0 lx hd0 hn1
  go_enter Tryd.func27, Tryd.ntmps27
  go_wp2_with fail
  (with_reducible refine (HT.out _ (Below.refl _ _)).mono ?_)
  rintro e w1 ⟨rfl, hw⟩
  rw [hw]; clear hw w1 HT
  go_wp2
  go_loopw [0, 3] (fun d v wr => ∃ (y n : Nat) (A : Option Addr) (c : Nat) (p : ByteArray), d = .slice A n c ∧ v = .string p ∧ Hid (n = (digs y).length) ∧ Hid (DR wr (.slice A n c) y) ∧ Hid (y ≤ x) ∧ Hid (PrAt x y p) ∧ Below w.heap.size w wr)
    (fun _ v _ => L + 1 - (match v with | .string t => t.size | _ => 0))
  case atStart => exact ⟨x, n0, A0, c0, ⟨#[]⟩, rfl, rfl, HN.out, HX.out, Nat.le_refl _, PrAt.start H0.out, Below.refl _ _⟩
  case round =>
    obtain ⟨y, n, A, c, p, rfl, rfl, HNY, HDY, HYX, HP, hbw⟩ := hrel
    rename World => wr
    by_cases hy : y = 0
    · have hn0 : n = 0 := by rw [HNY.out, hy, digs_zero]; rfl
      have hp : p = dstr x := by have := HP.out; rw [hy] at this; exact this.stop
      subst hn0 hp
      clear hy HNY HDY HYX HP
      go_wp2
      go_ret
      exact ⟨rfl, hbw⟩
    · have hn0 : 0 < (n : Int) := by have := digs_some hy; have := HNY.out; omega
      have hl : Calls Tryd.prog 80 #[.slice A n c, .int .u32 10] wr fun e w' => ∃ s', e = .returned (.tuple #[s', .int .u32 ((y % 10 : Nat) : Int)]) ∧ DR w' s' (y / 10) ∧ Below wr.heap.size wr w' := rless HDY.out (digs_le HYX.out LX.out) 10 (by decide) (by decide)
      obtain ⟨r, hr⟩ : ∃ r, r = y % 10 := ⟨_, rfl⟩
      rw [← hr] at hl
      have hr10 : r < 10 := by omega
      have HLS := Lib.hid hl
      have HNX : Hid (PrAt x (y / 10) (⟨#[UInt8.ofNat (48 + r)]⟩ ++ p)) := by rw [hr]; exact HP.out.next hy
      have hps := HP.out.size hy
      rw [← HL.out] at hps
      have w1 : IntKind.u8.wrap (r : Int) = (r : Int) := by rw [IntKind.wrap_u8]; omega
      have w2 : IntKind.u8.wrap (48 + (r : Int)) = 48 + (r : Int) := by rw [IntKind.wrap_u8]; omega
      have hcv := byte_str (48 + r) (48 + (r : Int)) (by omega)
      obtain ⟨z, hz⟩ : ∃ z, z = UInt8.ofNat (48 + r) := ⟨_, rfl⟩
      rw [← hz] at hcv HNX
      have hs1 : (⟨#[z]⟩ : ByteArray).size = 1 := rfl
      clear hz
      have hyx : Hid (y / 10 ≤ x) := Nat.le_trans (Nat.div_le_self _ _) HYX.out
      clear hl hr hy HP HYX HDY HNY
      go_wp2_with fail
      (with_reducible refine HLS.out.mono ?_)
      rintro e w2 ⟨s', rfl, hd, hb⟩
      obtain ⟨A2, c2, rfl, _⟩ := hd.form
      have HD2 := Lib.hid hd; have B2 := btr hbw hb
      clear hd hb
      go_wp2
      go_roundw
      case rel => exact ⟨y / 10, _, A2, c2, _, rfl, rfl, rfl, HD2.out.keep (by repeat (first | (with_reducible exact Below.refl _ _) | (with_reducible refine bal ?_ _) | (with_reducible refine Below.drew ?_) | (with_reducible refine bdn ?_ _))), hyx, HNX, by repeat (first | (with_reducible exact B2) | (with_reducible refine bal ?_ _) | (with_reducible refine Below.drew ?_) | (with_reducible refine bdn ?_ _))⟩
      case measure =>
        show L + 1 - (⟨#[z]⟩ ++ p : ByteArray).size < L + 1 - p.size
        rw [ByteArray.size_append, hs1]; omega
/-- What Print answers. -/
theorem rprint {s : Value} {x : Nat} {w : World} (h : DR w s x) (lx : (digs x).length ≤ 1000) :
    Calls Tryd.prog 27 #[s] w fun e w' => e = .returned (.string (dstr x)) ∧ Below w.heap.size w w' := by
  obtain ⟨A, c, rfl, _⟩ := h.form
  by_cases h0 : x = 0
  · subst h0
    obtain ⟨s0, hd0, ht⟩ := trim_keep h
    obtain ⟨A1, c1, rfl, _⟩ := hd0.form
    have e0 : (digs 0).length = 0 := by rw [digs_zero]; rfl
    rw [e0] at ht ⊢
    rw [show dstr 0 = ⟨#[48]⟩ from by unfold dstr; rw [dec_small (by decide)]; rfl]
    have HT := Lib.hid ht; clear ht h hd0
    go_enter Tryd.func27, Tryd.ntmps27
    go_wp2_with fail
    (with_reducible refine (HT.out _ (Below.refl _ _)).mono ?_)
    rintro e w1 ⟨rfl, hw⟩
    rw [hw]; clear hw w1 HT
    go_wp2
    go_ret
    exact ⟨rfl, Below.refl _ _⟩
  · exact rprint_core A c _ x rfl h0 lx w h
theorem ten_new (W : World) (z : Nat) (hz0 : z ≠ 0) (hz : z < 4294967296) (Z : Int) (e : Z = (z : Int)) : DR (W.alloc (.cells #[.int .u32 Z] 63)) (.slice (some ⟨W.heap.size, 0, none⟩) 1 1) z := by
  subst e
  have ed : digs z = [z] := by rw [digs_pos hz0, Nat.mod_eq_of_lt hz, Nat.div_eq_of_lt hz, digs_zero]
  unfold DR
  rw [ed]
  refine .inr ⟨W.heap.size, 0, 1, rfl, ⟨Nat.le_refl 1, by decide⟩, by simp, fun i hi => ?_⟩
  obtain rfl : i = 0 := by simp at hi; omega
  exact cell_of_row _ W.heap.size 0 _ _ _ (heap_alloc_new W _)
theorem digs_ten {k x : Nat} (hx : x < 10 ^ k) (hk : k ≤ 500) : (digs x).length ≤ 1000 := digs_of_ten (n := 1000) hx (by omega)
set_option maxHeartbeats 1000000 in
set_option maxRecDepth 100000 in
theorem rdigits_yes (s : ByteArray) (x : Nat) (hmax : s.size ≤ 500) (b : Bool) (hb : s.toList.isEmpty = b) (hall : dgs s.data.toList 0 = some x) (w : World) :
    Calls Tryd.prog 76 #[.string s] w fun e w' => ∃ s', e = .returned (.tuple #[s', .bool (!b)]) ∧ DR w' s' x ∧ Below w.heap.size w w' := by
  have HALL := Lib.hid hall; clear hall
  have hb2 : Hid (s.toList = [] ↔ b = true) := by show _ ↔ _; rw [← hb]; exact List.isEmpty_iff.symm
  go_enter Tryd.func76, Tryd.ntmps76
  go_wp2
  go_loopw [4, 5] (fun v i wr => ∃ (k y n : Nat) (A : Option Addr) (c : Nat), v = .slice A n c ∧ i = .int .i64 (k : Int) ∧ k ≤ s.size ∧ Hid (n = (digs y).length) ∧ Hid (DR wr (.slice A n c) y) ∧ Hid (y < 10 ^ k) ∧ Hid (dgs (s.data.toList.drop k) y = dgs s.data.toList 0) ∧ Below w.heap.size w wr)
    (fun _ i _ => s.size - (intOf i).toNat)
  case atStart => exact ⟨0, 0, 0, none, 0, rfl, rfl, Nat.zero_le _, (by show 0 = _; rw [digs_zero]; rfl), (by show DR _ _ _; unfold DR; rw [digs_zero]; exact .inl ⟨rfl, none, 0, rfl⟩), (by show 0 < 1; decide), (by show _ = _; rw [List.drop_zero]), Below.refl _ _⟩
  case round =>
    obtain ⟨k, y, n, A, c, rfl, rfl, hk, HNY, HDY, HYK, HDG, hbw⟩ := hrel
    rename World => wr
    by_cases hlt : k < s.size
    · have hkl : k < s.data.toList.length := by simpa using hlt
      have hst := dgs_step hkl HDG.out
      have eg : s.data.toList[k] = s[k] := rfl
      rw [eg] at hst
      by_cases hc : isD s[k]
      · have HNX := Lib.hid (hst.1 hc)
        obtain ⟨d, hd⟩ : ∃ d, d = s[k].toNat - 48 := ⟨_, rfl⟩
        rw [← hd] at HNX
        have hc1 : ¬ (s[k].toNat : Int) < 48 := by unfold isD at hc; omega
        have hc2 : ¬ 57 < (s[k].toNat : Int) := by unfold isD at hc; omega
        have hd9 : d < 10 := by unfold isD at hc; omega
        have w1 : IntKind.u8.wrap ((s[k].toNat : Int) - 48) = (d : Int) := by rw [IntKind.wrap_u8]; unfold isD at hc; omega
        have w2 : IntKind.u64.wrap (d : Int) = (d : Int) := by rw [IntKind.wrap_u64]; omega
        have L1 := Lib.hid (digs_ten HYK.out (by omega))
        have L2 := Lib.hid (digs_ten (k := 2) (show 10 < 10 ^ 2 by decide) (by decide))
        have L3 : Hid (y * 10 + d < 10 ^ (k + 1)) := by show _ < _; have := HYK.out; rw [Nat.pow_succ]; omega
        have L4 := Lib.hid (digs_ten (x := y * 10) (k := k + 1) (by have := L3.out; omega) (by omega))
        have L5 := Lib.hid (digs_ten (x := d) (k := 2) (by omega) (by decide))
        have hk0 : (0 : Int) ≤ (k : Int) := by omega
        have hk1 : (k : Int) < (s.size : Int) := by omega
        have HDD : Hid (d < 18446744073709551616) := by show _ < _; omega
        clear hc hst hd HNY HYK HDG
        go_upto_region 7 with (fail)
        go_region_held3 (fun _ => True)
          (trivial)
          (first | (go_at_call 71; (with_reducible refine (rmul (DR.keep (by repeat (first | (with_reducible exact Below.refl _ _) | (with_reducible refine bal ?_ _) | (with_reducible refine Below.drew ?_) | (with_reducible refine bdn ?_ _))) HDY.out) (DR.keep (by repeat (first | (with_reducible exact Below.refl _ _) | (with_reducible refine bal ?_ _) | (with_reducible refine Below.drew ?_) | (with_reducible refine bdn ?_ _))) (ten_new wr 10 (by decide) (by decide) 10 rfl)) L1.out L2.out).mono ?_); rintro e wa ⟨sa, rfl, hra, hba⟩; have ba : Below w.heap.size w wa := btr (by repeat (first | (with_reducible exact hbw) | (with_reducible refine bal ?_ _) | (with_reducible refine Below.drew ?_) | (with_reducible refine bdn ?_ _))) hba) | (go_at_call 110; (with_reducible refine (rsmall d HDD.out _).mono ?_); rintro e wb ⟨sb, rfl, hrb, hbb⟩; have hab : Below wa.heap.size wa wb := btr (by repeat (first | (with_reducible exact Below.refl _ _) | (with_reducible refine bal ?_ _) | (with_reducible refine Below.drew ?_) | (with_reducible refine bdn ?_ _))) hbb; have ha2 : DR wb sa (y * 10) := DR.keep hab hra; have bb : Below w.heap.size w wb := btr (by repeat (first | (with_reducible exact ba) | (with_reducible refine bal ?_ _) | (with_reducible refine Below.drew ?_) | (with_reducible refine bdn ?_ _))) hbb) | (go_at_call 86; (with_reducible refine (radd (DR.keep (by repeat (first | (with_reducible exact Below.refl _ _) | (with_reducible refine bal ?_ _) | (with_reducible refine Below.drew ?_) | (with_reducible refine bdn ?_ _))) ha2) (DR.keep (by repeat (first | (with_reducible exact Below.refl _ _) | (with_reducible refine bal ?_ _) | (with_reducible refine Below.drew ?_) | (with_reducible refine bdn ?_ _))) hrb) L4.out L5.out).mono ?_); rintro e wc ⟨sc, rfl, hrc, hbc⟩; have bc : Below w.heap.size w wc := btr (by repeat (first | (with_reducible exact bb) | (with_reducible refine bal ?_ _) | (with_reducible refine Below.drew ?_) | (with_reducible refine bdn ?_ _))) hbc))
        all_goals
          obtain ⟨A2, c2, rfl, _⟩ := hrc.form
          have HRC := Lib.hid hrc
          clear hrc hbc bb hbb hab ha2 hrb hba hra ba
          go_wp2
          go_roundw
          case rel => exact ⟨k + 1, y * 10 + d, _, A2, c2, rfl, by go_num, by omega, rfl, HRC.out.keep (by repeat (first | (with_reducible exact Below.refl _ _) | (with_reducible refine bal ?_ _) | (with_reducible refine Below.drew ?_) | (with_reducible refine bdn ?_ _))), L3, HNX, by repeat (first | (with_reducible exact bc) | (with_reducible refine bal ?_ _) | (with_reducible refine Below.drew ?_) | (with_reducible refine bdn ?_ _))⟩
          case measure => simp [intOf]; omega
      · have := hst.2 hc
        rw [HALL.out] at this
        cases this
    · have hv : dgs (s.data.toList.drop k) y = some y := by rw [List.drop_eq_nil_of_le (by simp; omega)]; rfl
      have hyx : y = x := by have := HDG.out; rw [hv, HALL.out] at this; exact Option.some.inj this
      subst hyx
      clear hv HDG
      go_wp2
      exact bodyPost_ret (v := .tuple #[.slice A n c, .bool (!b)]) (by simp [results, Tryd.results76, go_sem]) rfl ⟨_, rfl, HDY.out, hbw⟩
set_option maxHeartbeats 1000000 in
set_option maxRecDepth 100000 in
theorem rdigits_no (s : ByteArray) (hmax : s.size ≤ 500) (hall : dgs s.data.toList 0 = none) (w : World) :
    Calls Tryd.prog 76 #[.string s] w fun e w' => e = .returned (.tuple #[.slice none 0 0, .bool false]) ∧ Below w.heap.size w w' := by
  have HALL := Lib.hid hall; clear hall
  go_enter Tryd.func76, Tryd.ntmps76
  go_wp2
  go_loopw [4, 5] (fun v i wr => ∃ (k y n : Nat) (A : Option Addr) (c : Nat), v = .slice A n c ∧ i = .int .i64 (k : Int) ∧ k ≤ s.size ∧ Hid (n = (digs y).length) ∧ Hid (DR wr (.slice A n c) y) ∧ Hid (y < 10 ^ k) ∧ Hid (dgs (s.data.toList.drop k) y = dgs s.data.toList 0) ∧ Below w.heap.size w wr)
    (fun _ i _ => s.size - (intOf i).toNat)
  case atStart => exact ⟨0, 0, 0, none, 0, rfl, rfl, Nat.zero_le _, (by show 0 = _; rw [digs_zero]; rfl), (by show DR _ _ _; unfold DR; rw [digs_zero]; exact .inl ⟨rfl, none, 0, rfl⟩), (by show 0 < 1; decide), (by show _ = _; rw [List.drop_zero]), Below.refl _ _⟩
  case round =>
    obtain ⟨k, y, n, A, c, rfl, rfl, hk, HNY, HDY, HYK, HDG, hbw⟩ := hrel
    rename World => wr
    by_cases hlt : k < s.size
    · have hkl : k < s.data.toList.length := by simpa using hlt
      have hst := dgs_step hkl HDG.out
      have eg : s.data.toList[k] = s[k] := rfl
      rw [eg] at hst
      by_cases hc : isD s[k]
      · have HNX := Lib.hid (hst.1 hc)
        obtain ⟨d, hd⟩ : ∃ d, d = s[k].toNat - 48 := ⟨_, rfl⟩
        rw [← hd] at HNX
        have hc1 : ¬ (s[k].toNat : Int) < 48 := by unfold isD at hc; omega
        have hc2 : ¬ 57 < (s[k].toNat : Int) := by unfold isD at hc; omega
        have hd9 : d < 10 := by unfold isD at hc; omega
        have w1 : IntKind.u8.wrap ((s[k].toNat : Int) - 48) = (d : Int) := by rw [IntKind.wrap_u8]; unfold isD at hc; omega
        have w2 : IntKind.u64.wrap (d : Int) = (d : Int) := by rw [IntKind.wrap_u64]; omega
        have L1 := Lib.hid (digs_ten HYK.out (by omega))
        have L2 := Lib.hid (digs_ten (k := 2) (show 10 < 10 ^ 2 by decide) (by decide))
        have L3 : Hid (y * 10 + d < 10 ^ (k + 1)) := by show _ < _; have := HYK.out; rw [Nat.pow_succ]; omega
        have L4 := Lib.hid (digs_ten (x := y * 10) (k := k + 1) (by have := L3.out; omega) (by omega))
        have L5 := Lib.hid (digs_ten (x := d) (k := 2) (by omega) (by decide))
        have hk0 : (0 : Int) ≤ (k : Int) := by omega
        have hk1 : (k : Int) < (s.size : Int) := by omega
        have HDD : Hid (d < 18446744073709551616) := by show _ < _; omega
        clear hc hst hd HNY HYK HDG
        go_upto_region 7 with (fail)
        go_region_held3 (fun _ => True)
          (trivial)
          (first | (go_at_call 71; (with_reducible refine (rmul (DR.keep (by repeat (first | (with_reducible exact Below.refl _ _) | (with_reducible refine bal ?_ _) | (with_reducible refine Below.drew ?_) | (with_reducible refine bdn ?_ _))) HDY.out) (DR.keep (by repeat (first | (with_reducible exact Below.refl _ _) | (with_reducible refine bal ?_ _) | (with_reducible refine Below.drew ?_) | (with_reducible refine bdn ?_ _))) (ten_new wr 10 (by decide) (by decide) 10 rfl)) L1.out L2.out).mono ?_); rintro e wa ⟨sa, rfl, hra, hba⟩; have ba : Below w.heap.size w wa := btr (by repeat (first | (with_reducible exact hbw) | (with_reducible refine bal ?_ _) | (with_reducible refine Below.drew ?_) | (with_reducible refine bdn ?_ _))) hba) | (go_at_call 110; (with_reducible refine (rsmall d HDD.out _).mono ?_); rintro e wb ⟨sb, rfl, hrb, hbb⟩; have hab : Below wa.heap.size wa wb := btr (by repeat (first | (with_reducible exact Below.refl _ _) | (with_reducible refine bal ?_ _) | (with_reducible refine Below.drew ?_) | (with_reducible refine bdn ?_ _))) hbb; have ha2 : DR wb sa (y * 10) := DR.keep hab hra; have bb : Below w.heap.size w wb := btr (by repeat (first | (with_reducible exact ba) | (with_reducible refine bal ?_ _) | (with_reducible refine Below.drew ?_) | (with_reducible refine bdn ?_ _))) hbb) | (go_at_call 86; (with_reducible refine (radd (DR.keep (by repeat (first | (with_reducible exact Below.refl _ _) | (with_reducible refine bal ?_ _) | (with_reducible refine Below.drew ?_) | (with_reducible refine bdn ?_ _))) ha2) (DR.keep (by repeat (first | (with_reducible exact Below.refl _ _) | (with_reducible refine bal ?_ _) | (with_reducible refine Below.drew ?_) | (with_reducible refine bdn ?_ _))) hrb) L4.out L5.out).mono ?_); rintro e wc ⟨sc, rfl, hrc, hbc⟩; have bc : Below w.heap.size w wc := btr (by repeat (first | (with_reducible exact bb) | (with_reducible refine bal ?_ _) | (with_reducible refine Below.drew ?_) | (with_reducible refine bdn ?_ _))) hbc))
        all_goals
          obtain ⟨A2, c2, rfl, _⟩ := hrc.form
          have HRC := Lib.hid hrc
          clear hrc hbc bb hbb hab ha2 hrb hba hra ba
          go_wp2
          go_roundw
          case rel => exact ⟨k + 1, y * 10 + d, _, A2, c2, rfl, by go_num, by omega, rfl, HRC.out.keep (by repeat (first | (with_reducible exact Below.refl _ _) | (with_reducible refine bal ?_ _) | (with_reducible refine Below.drew ?_) | (with_reducible refine bdn ?_ _))), L3, HNX, by repeat (first | (with_reducible exact bc) | (with_reducible refine bal ?_ _) | (with_reducible refine Below.drew ?_) | (with_reducible refine bdn ?_ _))⟩
          case measure => simp [intOf]; omega
      · have hc1 : (s[k].toNat : Int) < 48 ∨ (¬ (s[k].toNat : Int) < 48 ∧ 57 < (s[k].toNat : Int)) := by unfold isD at hc; omega
        have hk0 : (0 : Int) ≤ (k : Int) := by omega
        have hk1 : (k : Int) < (s.size : Int) := by omega
        clear hc hst HNY HYK HDG
        rcases hc1 with hc1 | ⟨hc1, hc2⟩
        all_goals
          go_wp2
          exact bodyPost_ret (v := .tuple #[.slice none 0 0, .bool false]) (by simp [results, Tryd.results76, go_sem]) rfl ⟨rfl, hbw⟩
    · have hv : dgs (s.data.toList.drop k) y = some y := by rw [List.drop_eq_nil_of_le (by simp; omega)]; rfl
      have := HDG.out
      rw [hv, HALL.out] at this
      cases this
set_option maxRecDepth 100000 in
theorem rparse_long (s : ByteArray) (h : 100 < (s.size : Int)) (w : World) :
    Calls Tryd.prog 25 #[.string s] w fun e w' => e = .returned (.tuple #[N4 0, .bool false]) ∧ Below w.heap.size w w' := by
  go_enter Tryd.func25, Tryd.ntmps25
  go_wp2
  exact bodyPost_ret (v := .tuple #[N4 0, .bool false]) (by simp [results, Tryd.results25, go_sem, N4, lb_zero]) rfl ⟨rfl, by repeat (first | (with_reducible exact Below.refl _ _) | (with_reducible refine bal ?_ _) | (with_reducible refine Below.drew ?_) | (with_reducible refine bdn ?_ _) | ((with_reducible refine bsc ?_ ?_ _); rotate_left; (focus (simp only []; omega))))⟩
set_option maxRecDepth 100000 in
theorem rparse_nought (s : ByteArray) (hx : ¬ 100 < (s.size : Int)) (h1 : 1 < (s.size : Int)) (h1' : 0 < s.size) (h0 : ((s[0].toNat : Int) == 48) = true) (w : World) :
    Calls Tryd.prog 25 #[.string s] w fun e w' => e = .returned (.tuple #[N4 0, .bool false]) ∧ Below w.heap.size w w' := by
  go_enter Tryd.func25, Tryd.ntmps25
  go_wp2
  exact bodyPost_ret (v := .tuple #[N4 0, .bool false]) (by simp [results, Tryd.results25, go_sem, N4, lb_zero]) rfl ⟨rfl, by repeat (first | (with_reducible exact Below.refl _ _) | (with_reducible refine bal ?_ _) | (with_reducible refine Below.drew ?_) | (with_reducible refine bdn ?_ _) | ((with_reducible refine bsc ?_ ?_ _); rotate_left; (focus (simp only []; omega))))⟩
set_option maxRecDepth 100000 in
theorem rparse_no1 (s : ByteArray) (hx : ¬ 100 < (s.size : Int)) (h1 : ¬ 1 < (s.size : Int))
    (k1 : ∀ W, Calls Tryd.prog 76 #[.string s] W fun e w' => ∃ s', e = .returned (.tuple #[s', .bool false]) ∧ Below W.heap.size W w') (w : World) :
    Calls Tryd.prog 25 #[.string s] w fun e w' => e = .returned (.tuple #[N4 0, .bool false]) ∧ Below w.heap.size w w' := by
  have K1 := Lib.hid k1; clear k1
  go_enter Tryd.func25, Tryd.ntmps25
  go_wp2_with fail
  (with_reducible refine (K1.out _).mono ?_)
  rintro e w1 ⟨s', rfl, hb⟩
  have B1 : Below w.heap.size w w1 := btr (by repeat (first | (with_reducible exact Below.refl _ _) | (with_reducible refine bal ?_ _) | (with_reducible refine Below.drew ?_) | (with_reducible refine bdn ?_ _))) hb
  have R : Row4 w1 w.heap.size (.int .u64 0) (.int .u64 0) (.int .u64 0) (.int .u64 0) := Row4.keep hb (by repeat (first | (with_reducible exact Row4.new _ _ _ _ _) | (with_reducible refine Row4.drew ?_) | (with_reducible refine Row4.drewN ?_ _)))
  obtain ⟨c0, c1, c2, c3⟩ := R.four
  obtain ⟨f0, f1, f2, f3⟩ := R.free4
  clear hb
  go_wp2
  exact bodyPost_ret (v := .tuple #[N4 0, .bool false]) (by simp [results, Tryd.results25, go_sem, N4, lb_zero, c0, c1, c2, c3]) rfl ⟨rfl, by repeat (first | (with_reducible exact B1) | (with_reducible refine bal ?_ _) | (with_reducible refine Below.drew ?_) | (with_reducible refine bdn ?_ _) | ((with_reducible refine bsc ?_ ?_ _); rotate_left; (focus (simp only []; omega))))⟩
set_option maxRecDepth 100000 in
theorem rparse_yes1 (s : ByteArray) (x : Nat) (p : Bool) (y0 y1 y2 y3 : Int) (hx : ¬ 100 < (s.size : Int)) (h1 : ¬ 1 < (s.size : Int))
    (k1 : ∀ W, Calls Tryd.prog 76 #[.string s] W fun e w' => ∃ s', e = .returned (.tuple #[s', .bool true]) ∧ DR w' s' x ∧ Below W.heap.size W w')
    (k2 : ∀ s' W, DR W s' x → Calls Tryd.prog 14 #[s'] W fun e w' => e = .returned (.tuple #[.agg #[.int .u64 y0, .int .u64 y1, .int .u64 y2, .int .u64 y3], .bool p]) ∧ Below W.heap.size W w') (w : World) :
    Calls Tryd.prog 25 #[.string s] w fun e w' => e = .returned (.tuple #[.agg #[.int .u64 y0, .int .u64 y1, .int .u64 y2, .int .u64 y3], .bool p]) ∧ Below w.heap.size w w' := by
  have K1 := Lib.hid k1; have K2 := Lib.hid k2; clear k1 k2
  go_enter Tryd.func25, Tryd.ntmps25
  go_wp2_with fail
  (with_reducible refine (K1.out _).mono ?_)
  rintro e w1 ⟨s', rfl, hd, hb⟩
  have B1 : Below w.heap.size w w1 := btr (by repeat (first | (with_reducible exact Below.refl _ _) | (with_reducible refine bal ?_ _) | (with_reducible refine Below.drew ?_) | (with_reducible refine bdn ?_ _))) hb
  have R : Row4 w1 w.heap.size (.int .u64 0) (.int .u64 0) (.int .u64 0) (.int .u64 0) := Row4.keep hb (by repeat (first | (with_reducible exact Row4.new _ _ _ _ _) | (with_reducible refine Row4.drew ?_) | (with_reducible refine Row4.drewN ?_ _)))
  have HD := Lib.hid hd
  clear hb hd
  go_wp2_with fail
  (with_reducible refine (K2.out _ _ (DR.keep (by repeat (first | (with_reducible exact Below.refl _ _) | (with_reducible refine bal ?_ _) | (with_reducible refine Below.drew ?_) | (with_reducible refine bdn ?_ _))) HD.out)).mono ?_)
  rintro e w2 ⟨rfl, hb⟩
  have B2 : Below w.heap.size w w2 := btr (by repeat (first | (with_reducible exact B1) | (with_reducible refine bal ?_ _) | (with_reducible refine Below.drew ?_) | (with_reducible refine bdn ?_ _))) hb
  have R2 := Row4.keep hb (by repeat (first | (with_reducible exact R) | (with_reducible refine Row4.drew ?_) | (with_reducible refine Row4.drewN ?_ _)))
  clear hb R B1
  obtain ⟨c0, c1, c2, c3⟩ := R2.four
  obtain ⟨f0, f1, f2, f3⟩ := R2.free4
  go_wp2
  exact bodyPost_ret (v := .tuple #[.agg #[.int .u64 y0, .int .u64 y1, .int .u64 y2, .int .u64 y3], .bool p]) (by simp [results, Tryd.results25, go_sem, c0, c1, c2, c3]) rfl ⟨rfl, by repeat (first | (with_reducible exact B2) | (with_reducible refine bal ?_ _) | (with_reducible refine Below.drew ?_) | (with_reducible refine bdn ?_ _) | ((with_reducible refine bsc ?_ ?_ _); rotate_left; (focus (simp only []; omega))))⟩
set_option maxRecDepth 100000 in
theorem rparse_no2 (s : ByteArray) (hx : ¬ 100 < (s.size : Int)) (h1 : 1 < (s.size : Int)) (h1' : 0 < s.size) (h0 : ((s[0].toNat : Int) == 48) = false)
    (k1 : ∀ W, Calls Tryd.prog 76 #[.string s] W fun e w' => ∃ s', e = .returned (.tuple #[s', .bool false]) ∧ Below W.heap.size W w') (w : World) :
    Calls Tryd.prog 25 #[.string s] w fun e w' => e = .returned (.tuple #[N4 0, .bool false]) ∧ Below w.heap.size w w' := by
  have K1 := Lib.hid k1; clear k1
  go_enter Tryd.func25, Tryd.ntmps25
  go_wp2_with fail
  (with_reducible refine (K1.out _).mono ?_)
  rintro e w1 ⟨s', rfl, hb⟩
  have B1 : Below w.heap.size w w1 := btr (by repeat (first | (with_reducible exact Below.refl _ _) | (with_reducible refine bal ?_ _) | (with_reducible refine Below.drew ?_) | (with_reducible refine bdn ?_ _))) hb
  have R : Row4 w1 w.heap.size (.int .u64 0) (.int .u64 0) (.int .u64 0) (.int .u64 0) := Row4.keep hb (by repeat (first | (with_reducible exact Row4.new _ _ _ _ _) | (with_reducible refine Row4.drew ?_) | (with_reducible refine Row4.drewN ?_ _)))
  obtain ⟨c0, c1, c2, c3⟩ := R.four
  obtain ⟨f0, f1, f2, f3⟩ := R.free4
  clear hb
  go_wp2
  exact bodyPost_ret (v := .tuple #[N4 0, .bool false]) (by simp [results, Tryd.results25, go_sem, N4, lb_zero, c0, c1, c2, c3]) rfl ⟨rfl, by repeat (first | (with_reducible exact B1) | (with_reducible refine bal ?_ _) | (with_reducible refine Below.drew ?_) | (with_reducible refine bdn ?_ _) | ((with_reducible refine bsc ?_ ?_ _); rotate_left; (focus (simp only []; omega))))⟩
set_option maxRecDepth 100000 in
theorem rparse_yes2 (s : ByteArray) (x : Nat) (p : Bool) (y0 y1 y2 y3 : Int) (hx : ¬ 100 < (s.size : Int)) (h1 : 1 < (s.size : Int)) (h1' : 0 < s.size) (h0 : ((s[0].toNat : Int) == 48) = false)
    (k1 : ∀ W, Calls Tryd.prog 76 #[.string s] W fun e w' => ∃ s', e = .returned (.tuple #[s', .bool true]) ∧ DR w' s' x ∧ Below W.heap.size W w')
    (k2 : ∀ s' W, DR W s' x → Calls Tryd.prog 14 #[s'] W fun e w' => e = .returned (.tuple #[.agg #[.int .u64 y0, .int .u64 y1, .int .u64 y2, .int .u64 y3], .bool p]) ∧ Below W.heap.size W w') (w : World) :
    Calls Tryd.prog 25 #[.string s] w fun e w' => e = .returned (.tuple #[.agg #[.int .u64 y0, .int .u64 y1, .int .u64 y2, .int .u64 y3], .bool p]) ∧ Below w.heap.size w w' := by
  have K1 := Lib.hid k1; have K2 := Lib.hid k2; clear k1 k2
  go_enter Tryd.func25, Tryd.ntmps25
  go_wp2_with fail
  (with_reducible refine (K1.out _).mono ?_)
  rintro e w1 ⟨s', rfl, hd, hb⟩
  have B1 : Below w.heap.size w w1 := btr (by repeat (first | (with_reducible exact Below.refl _ _) | (with_reducible refine bal ?_ _) | (with_reducible refine Below.drew ?_) | (with_reducible refine bdn ?_ _))) hb
  have R : Row4 w1 w.heap.size (.int .u64 0) (.int .u64 0) (.int .u64 0) (.int .u64 0) := Row4.keep hb (by repeat (first | (with_reducible exact Row4.new _ _ _ _ _) | (with_reducible refine Row4.drew ?_) | (with_reducible refine Row4.drewN ?_ _)))
  have HD := Lib.hid hd
  clear hb hd
  go_wp2_with fail
  (with_reducible refine (K2.out _ _ (DR.keep (by repeat (first | (with_reducible exact Below.refl _ _) | (with_reducible refine bal ?_ _) | (with_reducible refine Below.drew ?_) | (with_reducible refine bdn ?_ _))) HD.out)).mono ?_)
  rintro e w2 ⟨rfl, hb⟩
  have B2 : Below w.heap.size w w2 := btr (by repeat (first | (with_reducible exact B1) | (with_reducible refine bal ?_ _) | (with_reducible refine Below.drew ?_) | (with_reducible refine bdn ?_ _))) hb
  have R2 := Row4.keep hb (by repeat (first | (with_reducible exact R) | (with_reducible refine Row4.drew ?_) | (with_reducible refine Row4.drewN ?_ _)))
  clear hb R B1
  obtain ⟨c0, c1, c2, c3⟩ := R2.four
  obtain ⟨f0, f1, f2, f3⟩ := R2.free4
  go_wp2
  exact bodyPost_ret (v := .tuple #[.agg #[.int .u64 y0, .int .u64 y1, .int .u64 y2, .int .u64 y3], .bool p]) (by simp [results, Tryd.results25, go_sem, c0, c1, c2, c3]) rfl ⟨rfl, by repeat (first | (with_reducible exact B2) | (with_reducible refine bal ?_ _) | (with_reducible refine Below.drew ?_) | (with_reducible refine bdn ?_ _) | ((with_reducible refine bsc ?_ ?_ _); rotate_left; (focus (simp only []; omega))))⟩
theorem pend_no {s : ByteArray} (h : parseN s = none) {w : World} {r : Value} (e : r = .tuple #[N4 0, .bool false]) (k : Calls Tryd.prog 25 #[.string s] w fun e w' => e = .returned r ∧ Below w.heap.size w w') :
    Calls Tryd.prog 25 #[.string s] w fun e w' => ParseEnd s e ∧ Below w.heap.size w w' := by
  refine k.mono ?_
  rintro e' w' ⟨rfl, hb⟩
  refine ⟨?_, hb⟩
  unfold ParseEnd
  rw [h, e]
  simp only [N4, lb_zero]
/-- The reference's Parse. -/
theorem rparse (s : ByteArray) (hmax : s.size ≤ 500) (w : World) :
    Calls Tryd.prog 25 #[.string s] w fun e w' => ParseEnd s e ∧ Below w.heap.size w w' := by
  have hlen : s.data.toList.length = s.size := by simp
  by_cases hx : 100 < s.size
  · exact pend_no (parse_long s (by omega)) rfl (rparse_long s (by omega) w)
  · have hx2 : ¬ 100 < (s.size : Int) := by omega
    have hkey : ∀ (h : 1 < s.size → s.data.toList.head? ≠ some 48), Calls Tryd.prog 25 #[.string s] w fun e w' => ParseEnd s e ∧ Below w.heap.size w w' := by
      intro h
      have hpn : parseN s = if s.size = 0 then none else capN (dgs s.data.toList 0) := by
        rw [parseN_dgs]
        by_cases hz : s.size = 0
        · rw [if_pos (.inl hz), if_pos hz]
        · rw [if_neg (by rintro (h1 | ⟨h1, h2⟩); exact hz h1; exact h h1 h2), if_neg hz]
      have hem : s.toList.isEmpty = decide (s.size = 0) := by
        rw [toList_data]
        cases hs : s.data.toList with
        | nil => rw [hs] at hlen; simp at hlen; simp [← hlen]
        | cons c l => rw [hs] at hlen; simp at hlen; simp [← hlen]
      have hh : ∀ h1' : 0 < s.size, s.data.toList.head? = some s[0] := by
        intro h1'
        cases hs : s.data.toList with
        | nil => rw [hs] at hlen; simp at hlen; omega
        | cons c l =>
          have : s[0] = s.data.toList[0]'(by omega) := rfl
          rw [this]
          simp [hs]
      have h0 : ∀ h1' : 0 < s.size, 1 < s.size → ((s[0].toNat : Int) == 48) = false := by
        intro h1' h2
        rw [beq_eq_false_iff_ne]
        intro h3
        exact h h2 (by rw [hh h1']; exact congrArg some (UInt8.toNat_inj.1 (by rw [show (48 : UInt8).toNat = 48 from rfl]; omega)))
      cases hd : dgs s.data.toList 0 with
      | none =>
        have hn : parseN s = none := by rw [hpn, hd]; split <;> rfl
        have k1 : ∀ W, Calls Tryd.prog 76 #[.string s] W fun e w' => ∃ s', e = .returned (.tuple #[s', .bool false]) ∧ Below W.heap.size W w' := fun W => (rdigits_no s hmax hd W).mono (fun e w' h => ⟨_, h.1, h.2⟩)
        by_cases h1 : 1 < s.size
        · exact pend_no hn rfl (rparse_no2 s hx2 (by omega) (by omega) (h0 (by omega) h1) k1 w)
        · exact pend_no hn rfl (rparse_no1 s hx2 (by omega) k1 w)
      | some x =>
        have k0 := fun W => rdigits_yes s x hmax _ hem hd W
        by_cases hz : s.size = 0
        · rw [decide_eq_true hz] at k0
          have hn : parseN s = none := by rw [hpn, if_pos hz]
          exact pend_no hn rfl (rparse_no1 s hx2 (by omega) (fun W => (k0 W).mono (fun e w' ⟨s', h1, _, h2⟩ => ⟨s', h1, h2⟩)) w)
        · rw [decide_eq_false hz] at k0
          rw [hd, if_neg hz] at hpn
          by_cases hv : x < 2 ^ 256
          · rw [capN_in hv] at hpn
            have k2 : ∀ s' W, DR W s' x → Calls Tryd.prog 14 #[s'] W fun e w' => e = .returned (.tuple #[.agg #[.int .u64 (lb 0 x), .int .u64 (lb 1 x), .int .u64 (lb 2 x), .int .u64 (lb 3 x)], .bool true]) ∧ Below W.heap.size W w' := fun s' W hD => by
              have := rnat hD
              rw [if_pos hv] at this
              exact this
            have hfin : ∀ {w : World}, (Calls Tryd.prog 25 #[.string s] w fun e w' => e = .returned (.tuple #[.agg #[.int .u64 (lb 0 x), .int .u64 (lb 1 x), .int .u64 (lb 2 x), .int .u64 (lb 3 x)], .bool true]) ∧ Below w.heap.size w w') → Calls Tryd.prog 25 #[.string s] w fun e w' => ParseEnd s e ∧ Below w.heap.size w w' := fun k => by
              refine k.mono ?_
              rintro e' w' ⟨rfl, hb⟩
              refine ⟨?_, hb⟩
              unfold ParseEnd
              rw [hpn]
            by_cases h1 : 1 < s.size
            · exact hfin (rparse_yes2 s x true _ _ _ _ hx2 (by omega) (by omega) (h0 (by omega) h1) k0 k2 w)
            · exact hfin (rparse_yes1 s x true _ _ _ _ hx2 (by omega) k0 k2 w)
          · rw [capN_out hv] at hpn
            have k2 : ∀ s' W, DR W s' x → Calls Tryd.prog 14 #[s'] W fun e w' => e = .returned (.tuple #[.agg #[.int .u64 (lb 0 0), .int .u64 (lb 1 0), .int .u64 (lb 2 0), .int .u64 (lb 3 0)], .bool false]) ∧ Below W.heap.size W w' := fun s' W hD => by
              have := rnat hD
              rw [if_neg hv] at this
              exact this
            by_cases h1 : 1 < s.size
            · exact pend_no hpn rfl (rparse_yes2 s x false _ _ _ _ hx2 (by omega) (by omega) (h0 (by omega) h1) k0 k2 w)
            · exact pend_no hpn rfl (rparse_yes1 s x false _ _ _ _ hx2 (by omega) k0 k2 w)
    by_cases hz : 1 < s.size ∧ s.data.toList.head? = some 48
    · have hh : s[0]'(by omega) = 48 := by
        have h1 := hz.2
        cases hs : s.data.toList with
        | nil => rw [hs] at h1; cases h1
        | cons c l =>
          rw [hs] at h1
          have : s[0]'(by omega) = s.data.toList[0]'(by omega) := rfl
          rw [this]
          simp only [hs, List.getElem_cons_zero]
          exact Option.some.inj h1
      refine pend_no ?_ rfl (rparse_nought s hx2 (by omega) (by omega) (by rw [hh]; rfl) w)
      unfold parseN
      rw [if_pos (.inr hz)]
    · exact hkey (fun h1 h2 => hz ⟨h1, h2⟩)
end Go.Proofs.YtngmdncidieclaaDoor
