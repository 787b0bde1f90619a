/-
  entrepotlaw1.NatDivs answers true for every number of four words and every word. The table internal/strconv.uint64pow10 reads as its initialiser lays it.
-/
import Derived.Test.YtpnlmikjcpjjmaaDoorRefApi
import Derived.Test.YtpnlmikjcpjjmaaDoorRefOf
import Derived.Test.YtpnlmikjcpjjmaaDoorRefCmp
import Derived.Test.YtpnlmikjcpjjmaaDoorNatDiv
import Derived.Test.YtpnlmikjcpjjmaaDoorNatTold
namespace Go.Proofs.YtpnlmikjcpjjmaaDoor
open Go.RowKit Go.Shelf
attribute [local go_sem ↓] eql_nat neq_nat

theorem len_of {x : Nat} (k : Nat) (h : x < 2 ^ (32 * k)) (hk : k ≤ 1000) : (digs x).length ≤ 1000 := Nat.le_trans (digs_len.2 h) hk
set_option maxHeartbeats 1000000 in
set_option maxRecDepth 100000 in
theorem divs_zero (x0 x1 x2 x3 : Int) (w : World) (hT : Tab w) :
    Calls Tryd.prog 4 #[.agg #[.int .u64 x0, .int .u64 x1, .int .u64 x2, .int .u64 x3], .int .u64 0] w fun e w' => e = .returned (.bool true) ∧ Below w.heap.size w w' := by
  have HT := Lib.hid hT; clear hT
  have HQ := Lib.hid (show eq4 0 0 0 0 0 0 0 0 = true by decide)
  go_enter Tryd.func4, Tryd.ntmps4
  go_wp2_with fail
  refine (div_nought _ _ _ _ _).mono ?_
  rintro e w1 ⟨rfl, hb⟩
  have BW1 : Below w.heap.size w w1 := btr (by repeat (first | (with_reducible exact Below.refl _ _) | (with_reducible refine bal ?_ _) | (with_reducible refine Below.drew ?_) | (with_reducible refine bdn ?_ _))) hb
  clear hb
  go_wp2_with fail
  refine (told_true _ (tab_on HT.out (by repeat (first | (with_reducible exact BW1) | (with_reducible refine bal ?_ _) | (with_reducible refine Below.drew ?_) | (with_reducible refine bdn ?_ _))))).mono ?_
  rintro e w2 ⟨rfl, hb⟩
  have BW2 : Below w.heap.size w w2 := btr (by repeat (first | (with_reducible exact BW1) | (with_reducible refine bal ?_ _) | (with_reducible refine Below.drew ?_) | (with_reducible refine bdn ?_ _))) hb
  have Q2 : Row4 w2 w1.heap.size (.int .u64 0) (.int .u64 0) (.int .u64 0) (.int .u64 0) := Row4.keep hb (by repeat (first | (with_reducible exact Row4.new _ _ _ _ _) | ((with_reducible refine Row4.new' _ ?_ _ _ _ _); (simp; done)) | (with_reducible refine Row4.alloc ?_ _) | (with_reducible refine Row4.drew ?_)))
  clear BW1
  clear hb
  obtain ⟨Qc0, Qc1, Qc2, Qc3⟩ := Q2.four
  obtain ⟨Qf0, Qf1, Qf2, Qf3⟩ := Q2.free4
  have hq := HQ.out
  go_wp2
  go_ret
  exact ⟨rfl, BW2⟩
set_option maxHeartbeats 1000000 in
set_option maxRecDepth 100000 in
theorem divs_pos (x d : Nat) (hx : x < 2 ^ 256) (hd0 : 0 < d) (hd : d < 18446744073709551616) (w : World) (hT : Tab w) :
    Calls Tryd.prog 4 #[N4 x, .int .u64 d] w fun e w' => e = .returned (.bool true) ∧ Below w.heap.size w w' := by
  have hq : x / d < 2 ^ 256 := Nat.lt_of_le_of_lt (Nat.div_le_self _ _) hx
  have hr : x % d < d := Nat.mod_lt _ hd0
  obtain ⟨q, eq⟩ : ∃ q, q = x / d := ⟨_, rfl⟩
  obtain ⟨r, er⟩ : ∃ r, r = x % d := ⟨_, rfl⟩
  have he : q * d + r = x := by rw [eq, er, Nat.mul_comm]; exact Nat.div_add_mod x d
  have hm : q * d < 2 ^ (32 * 8) := by
    have : q * d ≤ x := by omega
    exact Nat.lt_of_le_of_lt this hx
  have kd := fun W => div_any x d hx hd0 hd W
  rw [← eq, ← er] at kd
  rw [← eq] at hq
  rw [← er] at hr
  have hz : ((d : Int) == 0) = false := by rw [beq_eq_false_iff_ne]; omega
  have hlt : decide ((r : Int) < (d : Int)) = true := decide_eq_true (by omega)
  have L1 := Lib.hid (len_of 8 (show q < 2 ^ (32 * 8) from hq) (by decide))
  have L2 := Lib.hid (len_of 2 (show d < 2 ^ (32 * 2) from hd) (by decide))
  have L3 := Lib.hid (len_of 8 hm (by decide))
  have L4 := Lib.hid (len_of 2 (show r < 2 ^ (32 * 2) by omega) (by decide))
  have L5 := Lib.hid (len_of 8 (show x < 2 ^ (32 * 8) from hx) (by decide))
  have HT := Lib.hid hT; have KD := Lib.hid kd; have HE := Lib.hid he; have HX := Lib.hid hx; have HQ := Lib.hid hq; have HD := Lib.hid hd; have HR := Lib.hid hr; clear hT kd he hx hq hd hr hm eq er
  go_enter Tryd.func4, Tryd.ntmps4
  go_wp2_with fail
  refine (KD.out _).mono ?_
  rintro e w1 ⟨rfl, hb⟩
  have BW1 : Below w.heap.size w w1 := btr (by repeat (first | (with_reducible exact Below.refl _ _) | (with_reducible refine bal ?_ _) | (with_reducible refine Below.drew ?_) | (with_reducible refine bdn ?_ _))) hb
  have A1 : Row4 w1 w.heap.size (.int .u64 (lb 0 x)) (.int .u64 (lb 1 x)) (.int .u64 (lb 2 x)) (.int .u64 (lb 3 x)) := Row4.keep hb (by repeat (first | (with_reducible exact Row4.new _ _ _ _ _) | ((with_reducible refine Row4.new' _ ?_ _ _ _ _); (simp; done)) | (with_reducible refine Row4.alloc ?_ _) | (with_reducible refine Row4.drew ?_)))
  clear hb
  obtain ⟨Ac0, Ac1, Ac2, Ac3⟩ := A1.four
  obtain ⟨Af0, Af1, Af2, Af3⟩ := A1.free4
  go_wp2_with fail
  refine (rof q HQ.out _).mono ?_
  rintro e w2 ⟨s1, rfl, hr, hb⟩
  have hbX : Below w1.heap.size w1 w2 := btr (by repeat (first | (with_reducible exact Below.refl _ _) | (with_reducible refine bal ?_ _) | (with_reducible refine Below.drew ?_) | (with_reducible refine bdn ?_ _))) hb
  clear hbX
  have DA2 : DR w2 s1 q := hr
  clear hr
  have BW2 : Below w.heap.size w w2 := btr (by repeat (first | (with_reducible exact BW1) | (with_reducible refine bal ?_ _) | (with_reducible refine Below.drew ?_) | (with_reducible refine bdn ?_ _))) hb
  have A2 : Row4 w2 w.heap.size (.int .u64 (lb 0 x)) (.int .u64 (lb 1 x)) (.int .u64 (lb 2 x)) (.int .u64 (lb 3 x)) := Row4.keep hb (by repeat (first | (with_reducible exact A1) | (with_reducible refine Row4.alloc ?_ _) | (with_reducible refine Row4.drew ?_)))
  have apQ_A := A1.lt
  have apQ_0 := (BW1).size
  have Q2 : Row4 w2 w1.heap.size (.int .u64 (lb 0 q)) (.int .u64 (lb 1 q)) (.int .u64 (lb 2 q)) (.int .u64 (lb 3 q)) := Row4.keep hb (by repeat (first | (with_reducible exact Row4.new _ _ _ _ _) | ((with_reducible refine Row4.new' _ ?_ _ _ _ _); (simp; done)) | (with_reducible refine Row4.alloc ?_ _) | (with_reducible refine Row4.drew ?_)))
  clear A1
  clear BW1
  clear hb
  go_wp2_with fail
  refine (rsmall d HD.out _).mono ?_
  rintro e w3 ⟨s2, rfl, hr, hb⟩
  have hbX : Below w2.heap.size w2 w3 := btr (by repeat (first | (with_reducible exact Below.refl _ _) | (with_reducible refine bal ?_ _) | (with_reducible refine Below.drew ?_) | (with_reducible refine bdn ?_ _))) hb
  have DA3 : DR w3 s1 q := DR.keep hbX DA2
  clear DA2
  clear hbX
  have DB3 : DR w3 s2 d := hr
  clear hr
  have BW3 : Below w.heap.size w w3 := btr (by repeat (first | (with_reducible exact BW2) | (with_reducible refine bal ?_ _) | (with_reducible refine Below.drew ?_) | (with_reducible refine bdn ?_ _))) hb
  have A3 : Row4 w3 w.heap.size (.int .u64 (lb 0 x)) (.int .u64 (lb 1 x)) (.int .u64 (lb 2 x)) (.int .u64 (lb 3 x)) := Row4.keep hb (by repeat (first | (with_reducible exact A2) | (with_reducible refine Row4.alloc ?_ _) | (with_reducible refine Row4.drew ?_)))
  have Q3 : Row4 w3 w1.heap.size (.int .u64 (lb 0 q)) (.int .u64 (lb 1 q)) (.int .u64 (lb 2 q)) (.int .u64 (lb 3 q)) := Row4.keep hb (by repeat (first | (with_reducible exact Q2) | (with_reducible refine Row4.alloc ?_ _) | (with_reducible refine Row4.drew ?_)))
  clear A2 Q2
  clear BW2
  clear hb
  go_wp2_with fail
  refine (rmul (DR.keep (by repeat (first | (with_reducible exact Below.refl _ _) | (with_reducible refine bal ?_ _) | (with_reducible refine Below.drew ?_) | (with_reducible refine bdn ?_ _))) DA3) (DR.keep (by repeat (first | (with_reducible exact Below.refl _ _) | (with_reducible refine bal ?_ _) | (with_reducible refine Below.drew ?_) | (with_reducible refine bdn ?_ _))) DB3) L1.out L2.out).mono ?_
  rintro e w4 ⟨s3, rfl, hr, hb⟩
  have hbX : Below w3.heap.size w3 w4 := btr (by repeat (first | (with_reducible exact Below.refl _ _) | (with_reducible refine bal ?_ _) | (with_reducible refine Below.drew ?_) | (with_reducible refine bdn ?_ _))) hb
  have DA4 : DR w4 s1 q := DR.keep hbX DA3
  have DB4 : DR w4 s2 d := DR.keep hbX DB3
  clear DA3 DB3
  clear hbX
  have DC4 : DR w4 s3 (q * d) := hr
  clear hr
  have BW4 : Below w.heap.size w w4 := btr (by repeat (first | (with_reducible exact BW3) | (with_reducible refine bal ?_ _) | (with_reducible refine Below.drew ?_) | (with_reducible refine bdn ?_ _))) hb
  have A4 : Row4 w4 w.heap.size (.int .u64 (lb 0 x)) (.int .u64 (lb 1 x)) (.int .u64 (lb 2 x)) (.int .u64 (lb 3 x)) := Row4.keep hb (by repeat (first | (with_reducible exact A3) | (with_reducible refine Row4.alloc ?_ _) | (with_reducible refine Row4.drew ?_)))
  have Q4 : Row4 w4 w1.heap.size (.int .u64 (lb 0 q)) (.int .u64 (lb 1 q)) (.int .u64 (lb 2 q)) (.int .u64 (lb 3 q)) := Row4.keep hb (by repeat (first | (with_reducible exact Q3) | (with_reducible refine Row4.alloc ?_ _) | (with_reducible refine Row4.drew ?_)))
  clear A3 Q3
  clear BW3
  clear hb
  go_wp2_with fail
  refine (rsmall r (Nat.lt_trans HR.out HD.out) _).mono ?_
  rintro e w5 ⟨s4, rfl, hr, hb⟩
  have hbX : Below w4.heap.size w4 w5 := btr (by repeat (first | (with_reducible exact Below.refl _ _) | (with_reducible refine bal ?_ _) | (with_reducible refine Below.drew ?_) | (with_reducible refine bdn ?_ _))) hb
  have DA5 : DR w5 s1 q := DR.keep hbX DA4
  have DB5 : DR w5 s2 d := DR.keep hbX DB4
  have DC5 : DR w5 s3 (q * d) := DR.keep hbX DC4
  clear DA4 DB4 DC4
  clear hbX
  have DD5 : DR w5 s4 r := hr
  clear hr
  have BW5 : Below w.heap.size w w5 := btr (by repeat (first | (with_reducible exact BW4) | (with_reducible refine bal ?_ _) | (with_reducible refine Below.drew ?_) | (with_reducible refine bdn ?_ _))) hb
  have A5 : Row4 w5 w.heap.size (.int .u64 (lb 0 x)) (.int .u64 (lb 1 x)) (.int .u64 (lb 2 x)) (.int .u64 (lb 3 x)) := Row4.keep hb (by repeat (first | (with_reducible exact A4) | (with_reducible refine Row4.alloc ?_ _) | (with_reducible refine Row4.drew ?_)))
  have Q5 : Row4 w5 w1.heap.size (.int .u64 (lb 0 q)) (.int .u64 (lb 1 q)) (.int .u64 (lb 2 q)) (.int .u64 (lb 3 q)) := Row4.keep hb (by repeat (first | (with_reducible exact Q4) | (with_reducible refine Row4.alloc ?_ _) | (with_reducible refine Row4.drew ?_)))
  clear A4 Q4
  clear BW4
  clear hb
  go_wp2_with fail
  refine (radd (DR.keep (by repeat (first | (with_reducible exact Below.refl _ _) | (with_reducible refine bal ?_ _) | (with_reducible refine Below.drew ?_) | (with_reducible refine bdn ?_ _))) DC5) (DR.keep (by repeat (first | (with_reducible exact Below.refl _ _) | (with_reducible refine bal ?_ _) | (with_reducible refine Below.drew ?_) | (with_reducible refine bdn ?_ _))) DD5) L3.out L4.out).mono ?_
  rintro e w6 ⟨s5, rfl, hr, hb⟩
  have hbX : Below w5.heap.size w5 w6 := btr (by repeat (first | (with_reducible exact Below.refl _ _) | (with_reducible refine bal ?_ _) | (with_reducible refine Below.drew ?_) | (with_reducible refine bdn ?_ _))) hb
  have DA6 : DR w6 s1 q := DR.keep hbX DA5
  have DB6 : DR w6 s2 d := DR.keep hbX DB5
  have DC6 : DR w6 s3 (q * d) := DR.keep hbX DC5
  have DD6 : DR w6 s4 r := DR.keep hbX DD5
  clear DA5 DB5 DC5 DD5
  clear hbX
  have DE6 : DR w6 s5 (q * d + r) := hr
  clear hr
  have BW6 : Below w.heap.size w w6 := btr (by repeat (first | (with_reducible exact BW5) | (with_reducible refine bal ?_ _) | (with_reducible refine Below.drew ?_) | (with_reducible refine bdn ?_ _))) hb
  have A6 : Row4 w6 w.heap.size (.int .u64 (lb 0 x)) (.int .u64 (lb 1 x)) (.int .u64 (lb 2 x)) (.int .u64 (lb 3 x)) := Row4.keep hb (by repeat (first | (with_reducible exact A5) | (with_reducible refine Row4.alloc ?_ _) | (with_reducible refine Row4.drew ?_)))
  have Q6 : Row4 w6 w1.heap.size (.int .u64 (lb 0 q)) (.int .u64 (lb 1 q)) (.int .u64 (lb 2 q)) (.int .u64 (lb 3 q)) := Row4.keep hb (by repeat (first | (with_reducible exact Q5) | (with_reducible refine Row4.alloc ?_ _) | (with_reducible refine Row4.drew ?_)))
  clear A5 Q5
  clear BW5
  clear hb
  go_wp2_with fail
  refine (told_true _ (tab_on HT.out (by repeat (first | (with_reducible exact BW6) | (with_reducible refine bal ?_ _) | (with_reducible refine Below.drew ?_) | (with_reducible refine bdn ?_ _))))).mono ?_
  rintro e w7 ⟨rfl, hb⟩
  have hbX : Below w6.heap.size w6 w7 := btr (by repeat (first | (with_reducible exact Below.refl _ _) | (with_reducible refine bal ?_ _) | (with_reducible refine Below.drew ?_) | (with_reducible refine bdn ?_ _))) hb
  have DA7 : DR w7 s1 q := DR.keep hbX DA6
  have DB7 : DR w7 s2 d := DR.keep hbX DB6
  have DC7 : DR w7 s3 (q * d) := DR.keep hbX DC6
  have DD7 : DR w7 s4 r := DR.keep hbX DD6
  have DE7 : DR w7 s5 (q * d + r) := DR.keep hbX DE6
  clear DA6 DB6 DC6 DD6 DE6
  clear hbX
  have BW7 : Below w.heap.size w w7 := btr (by repeat (first | (with_reducible exact BW6) | (with_reducible refine bal ?_ _) | (with_reducible refine Below.drew ?_) | (with_reducible refine bdn ?_ _))) hb
  have A7 : Row4 w7 w.heap.size (.int .u64 (lb 0 x)) (.int .u64 (lb 1 x)) (.int .u64 (lb 2 x)) (.int .u64 (lb 3 x)) := Row4.keep hb (by repeat (first | (with_reducible exact A6) | (with_reducible refine Row4.alloc ?_ _) | (with_reducible refine Row4.drew ?_)))
  have Q7 : Row4 w7 w1.heap.size (.int .u64 (lb 0 q)) (.int .u64 (lb 1 q)) (.int .u64 (lb 2 q)) (.int .u64 (lb 3 q)) := Row4.keep hb (by repeat (first | (with_reducible exact Q6) | (with_reducible refine Row4.alloc ?_ _) | (with_reducible refine Row4.drew ?_)))
  clear A6 Q6
  clear BW6
  clear hb
  obtain ⟨Ac0, Ac1, Ac2, Ac3⟩ := A7.four
  obtain ⟨Af0, Af1, Af2, Af3⟩ := A7.free4
  go_wp2_with fail
  refine (rof x HX.out _).mono ?_
  rintro e w8 ⟨s6, rfl, hr, hb⟩
  have hbX : Below w7.heap.size w7 w8 := btr (by repeat (first | (with_reducible exact Below.refl _ _) | (with_reducible refine bal ?_ _) | (with_reducible refine Below.drew ?_) | (with_reducible refine bdn ?_ _))) hb
  have DA8 : DR w8 s1 q := DR.keep hbX DA7
  have DB8 : DR w8 s2 d := DR.keep hbX DB7
  have DC8 : DR w8 s3 (q * d) := DR.keep hbX DC7
  have DD8 : DR w8 s4 r := DR.keep hbX DD7
  have DE8 : DR w8 s5 (q * d + r) := DR.keep hbX DE7
  clear DA7 DB7 DC7 DD7 DE7
  clear hbX
  have DF8 : DR w8 s6 x := hr
  clear hr
  have BW8 : Below w.heap.size w w8 := btr (by repeat (first | (with_reducible exact BW7) | (with_reducible refine bal ?_ _) | (with_reducible refine Below.drew ?_) | (with_reducible refine bdn ?_ _))) hb
  have A8 : Row4 w8 w.heap.size (.int .u64 (lb 0 x)) (.int .u64 (lb 1 x)) (.int .u64 (lb 2 x)) (.int .u64 (lb 3 x)) := Row4.keep hb (by repeat (first | (with_reducible exact A7) | (with_reducible refine Row4.alloc ?_ _) | (with_reducible refine Row4.drew ?_)))
  have Q8 : Row4 w8 w1.heap.size (.int .u64 (lb 0 q)) (.int .u64 (lb 1 q)) (.int .u64 (lb 2 q)) (.int .u64 (lb 3 q)) := Row4.keep hb (by repeat (first | (with_reducible exact Q7) | (with_reducible refine Row4.alloc ?_ _) | (with_reducible refine Row4.drew ?_)))
  clear A7 Q7
  clear BW7
  clear hb
  have hcm := rcmp (w := w8) DE8 DF8 (by rw [HE.out]; exact L5.out)
  rw [HE.out, rcv_eq] at hcm
  have HCM := Lib.hid hcm; clear hcm
  go_wp2_with fail
  refine (HCM.out).mono ?_
  rintro e w9 ⟨rfl, hb⟩
  have hbX : Below w8.heap.size w8 w9 := btr (by repeat (first | (with_reducible exact Below.refl _ _) | (with_reducible refine bal ?_ _) | (with_reducible refine Below.drew ?_) | (with_reducible refine bdn ?_ _))) hb
  have DA9 : DR w9 s1 q := DR.keep hbX DA8
  have DB9 : DR w9 s2 d := DR.keep hbX DB8
  have DC9 : DR w9 s3 (q * d) := DR.keep hbX DC8
  have DD9 : DR w9 s4 r := DR.keep hbX DD8
  have DE9 : DR w9 s5 (q * d + r) := DR.keep hbX DE8
  have DF9 : DR w9 s6 x := DR.keep hbX DF8
  clear DA8 DB8 DC8 DD8 DE8 DF8
  clear hbX
  have BW9 : Below w.heap.size w w9 := btr (by repeat (first | (with_reducible exact BW8) | (with_reducible refine bal ?_ _) | (with_reducible refine Below.drew ?_) | (with_reducible refine bdn ?_ _))) hb
  have A9 : Row4 w9 w.heap.size (.int .u64 (lb 0 x)) (.int .u64 (lb 1 x)) (.int .u64 (lb 2 x)) (.int .u64 (lb 3 x)) := Row4.keep hb (by repeat (first | (with_reducible exact A8) | (with_reducible refine Row4.alloc ?_ _) | (with_reducible refine Row4.drew ?_)))
  have Q9 : Row4 w9 w1.heap.size (.int .u64 (lb 0 q)) (.int .u64 (lb 1 q)) (.int .u64 (lb 2 q)) (.int .u64 (lb 3 q)) := Row4.keep hb (by repeat (first | (with_reducible exact Q8) | (with_reducible refine Row4.alloc ?_ _) | (with_reducible refine Row4.drew ?_)))
  clear A8 Q8
  clear BW8
  clear hb
  go_wp2
  go_ret
  exact ⟨rfl, BW9⟩
theorem divs_any (x : Nat) (d : Int) (hx : x < 2 ^ 256) (h0 : 0 ≤ d) (h1 : d ≤ 18446744073709551615) (w : World) (hT : Tab w) :
    Calls Tryd.prog 4 #[N4 x, .int .u64 d] w fun e w' => e = .returned (.bool true) ∧ Below w.heap.size w w' := by
  obtain ⟨d, rfl⟩ := Int.eq_ofNat_of_zero_le h0
  by_cases h : d = 0
  · subst h; exact divs_zero _ _ _ _ w hT
  · exact divs_pos x d hx (by omega) (by omega) w hT
end Go.Proofs.YtpnlmikjcpjjmaaDoor
