/-
  nat.Print: the contract, for all numbers of four words: the decimal numeral. The table internal/strconv.uint64pow10 reads as its initialiser lays it.
-/
import Derived.Test.YtoibaeilbolffaaGreatDoorNatPrintMath
import Derived.Test.YtoibaeilbolffaaGreatDoorNatFmt
import Derived.Test.YtoibaeilbolffaaGreatDoorNatDiv
import Derived.Test.YtoibaeilbolffaaGreatDoorNatEq
namespace Go.Proofs.YtoibaeilbolffaaGreatDoor
open Go.RowKit Go.Shelf
attribute [local go_sem ↓] eql_nat neq_nat

theorem repeat_replicate (c : Nat) : Lib.repeatL [48] c = List.replicate c 48 := by
  induction c with
  | zero => rfl
  | succ c ih => rw [Lib.repeatL, ih]; rfl

set_option maxHeartbeats 2000000 in
set_option maxRecDepth 100000 in
theorem print_any (x : Nat) (hx : x < 2 ^ 256) (w : World) (htab : Tab w) :
    Calls Tryz.prog 31 #[N4 x] w fun e w' => (∃ p : ByteArray, e = .returned (.string p) ∧ p.data.toList = Lib.decDigits x) ∧ Below w.heap.size w w' := by
  have HT := Lib.hid htab
  clear htab
  go_enter Tryz.func31, Tryz.ntmps31
  go_wp2
  go_loopw [3] (fun v wr => ∃ (a : Nat) (t : ByteArray), v = .string t ∧ a < 2 ^ 256 ∧ t.size ≤ 100 ∧ Hid (Lib.decDigits x = Lib.decDigits a ++ t.data.toList) ∧ Row4 wr w.heap.size (.int .u64 (lb 0 a)) (.int .u64 (lb 1 a)) (.int .u64 (lb 2 a)) (.int .u64 (lb 3 a)) ∧ Below w.heap.size w wr) (fun v _ => 100 - (match v with | .string t => t.size | _ => 0))
  case atStart => exact ⟨x, ⟨#[]⟩, rfl, hx, by decide, by show Lib.decDigits x = _; simp, Row4.new _ _ _ _ _, bal (Below.refl _ _) _⟩
  case round =>
    obtain ⟨a, t, rfl, ha, ht, HD, R, hw⟩ := hrel
    rename World => wr
    obtain ⟨t0, t1, t2, t3, tf0, tf1, tf2, tf3⟩ := R.parts
    have TW := Lib.hid (tab_on HT.out hw)
    go_wp2_with fail
    refine (div_any a 10000000000000000000 ha (by decide) (by decide) _).mono ?_
    rintro e w1 ⟨rfl, hb1⟩
    have R1 := Row4.keep hb1 R
    have B1 := btr hw hb1
    have T1 := Lib.hid (tab_on TW.out hb1)
    clear R hb1 t0 t1 t2 t3 tf0 tf1 tf2 tf3
    go_wp2_with fail
    refine (fmt_any (a % 10000000000000000000) (by omega) _ (tab_on T1.out (bal (Below.refl _ _) _))).mono ?_
    rintro e w2 ⟨rfl, hb2⟩
    have R2 := Row4.keep hb2 (Row4.alloc R1 _)
    have Q2 := Row4.keep hb2 (Row4.new _ _ _ _ _)
    have B2 := btr (bal B1 _) hb2
    have hlen := dec_len (k := 19) (r := a % 10000000000000000000) (by decide) (by omega)
    have hpos := dec_pos (a % 10000000000000000000)
    obtain ⟨p, hp⟩ : ∃ p : ByteArray, p = ⟨(Lib.decDigits (a % 10000000000000000000)).toArray⟩ := ⟨_, rfl⟩
    rw [← hp]
    have HP : Hid (p.data.toList = Lib.decDigits (a % 10000000000000000000)) := by rw [hp]; show (Lib.decDigits (a % 10000000000000000000)).toArray.toList = _; simp
    have hps : p.size = (Lib.decDigits (a % 10000000000000000000)).length := by rw [hp]; show (Lib.decDigits (a % 10000000000000000000)).toArray.size = _; simp
    rw [← hps] at hlen hpos
    have hne : ¬ w1.heap.size = w.heap.size := by have := R1.lt; omega
    clear hp hps R1 B1 T1 TW hb2
    have hq256 : a / 10000000000000000000 < 2 ^ 256 := by omega
    have heq : eq4 (lb 0 (a / 10000000000000000000)) (lb 1 (a / 10000000000000000000)) (lb 2 (a / 10000000000000000000)) (lb 3 (a / 10000000000000000000)) 0 0 0 0 = decide (a / 10000000000000000000 = 0) := eq4_of (a / 10000000000000000000) 0 hq256 (by decide)
    obtain ⟨q0, q1, q2, q3, qf0, qf1, qf2, qf3⟩ := Q2.parts
    clear qf0 qf1 qf2 qf3
    by_cases hq : a / 10000000000000000000 = 0
    · rw [decide_eq_true hq] at heq
      have HF : Hid (Lib.decDigits x = p.data.toList ++ t.data.toList) := by
        show Lib.decDigits x = _
        rw [HD.out, HP.out, show a % 10000000000000000000 = a from by omega]
      have HQ := Lib.hid hq
      clear HD HP hq
      go_wp2
      go_region_held3 (fun w' => w'.cell? ⟨w1.heap.size, 0, none⟩ = some (.int .u64 (lb 0 (a / 10000000000000000000))) ∧ w'.cell? ⟨w1.heap.size, 1, none⟩ = some (.int .u64 (lb 1 (a / 10000000000000000000))) ∧ w'.cell? ⟨w1.heap.size, 2, none⟩ = some (.int .u64 (lb 2 (a / 10000000000000000000))) ∧ w'.cell? ⟨w1.heap.size, 3, none⟩ = some (.int .u64 (lb 3 (a / 10000000000000000000))))
        (first | (simp [go_sem, q0, q1, q2, q3]; done) | (with_reducible exact ⟨s0, s1, s2, s3⟩)) (first | (go_at_call 58; refine (of_one _ _).mono ?_; rintro e w3 ⟨rfl, o3, rfl⟩; obtain ⟨s0, s1, s2, s3, s4⟩ := (Row4.drew (Row4.alloc Q2 o3)).parts))
      go_wp2
      go_ret
      exact ⟨⟨p ++ t, rfl, by rw [HF.out]; simp⟩, Below.drew (bal B2 _)⟩
    · rw [decide_eq_false hq] at heq
      go_wp2
      go_region_held3 (fun w' => w'.cell? ⟨w1.heap.size, 0, none⟩ = some (.int .u64 (lb 0 (a / 10000000000000000000))) ∧ w'.cell? ⟨w1.heap.size, 1, none⟩ = some (.int .u64 (lb 1 (a / 10000000000000000000))) ∧ w'.cell? ⟨w1.heap.size, 2, none⟩ = some (.int .u64 (lb 2 (a / 10000000000000000000))) ∧ w'.cell? ⟨w1.heap.size, 3, none⟩ = some (.int .u64 (lb 3 (a / 10000000000000000000))))
        (first | (simp [go_sem, q0, q1, q2, q3]; done) | (with_reducible exact ⟨s0, s1, s2, s3⟩)) (first | (go_at_call 58; refine (of_one _ _).mono ?_; rintro e w3 ⟨rfl, o3, rfl⟩; obtain ⟨s0, s1, s2, s3, s4⟩ := (Row4.drew (Row4.alloc Q2 o3)).parts))
      go_wp2_with fail
      have hcc : (19 - (p.size : Int)) = ((19 - p.size : Nat) : Int) := by omega
      rw [hcc]
      refine (Tryz.strings_Repeat ⟨#[48]⟩ (19 - p.size) _ (by omega) (by show 1 * _ ≤ _; omega)).mono ?_
      rintro e w4 ⟨rfl, hb4⟩
      have Q4 := Row4.keep hb4 (Row4.drew (Row4.alloc Q2 o3))
      have R4 := Row4.keep hb4 (Row4.drew (Row4.alloc R2 o3))
      have B4 := btr (Below.drew (bal B2 o3)) hb4
      obtain ⟨z, hz⟩ : ∃ z : ByteArray, z = ⟨(Lib.repeatL (⟨#[48]⟩ : ByteArray).data.toList (19 - p.size)).toArray⟩ := ⟨_, rfl⟩
      rw [← hz]
      have hzl : z.data.toList = List.replicate (19 - p.size) 48 := by
        rw [hz]
        show (Lib.repeatL [48] (19 - p.size)).toArray.toList = _
        rw [repeat_replicate]
      have hzs : z.size = 19 - p.size := by
        rw [hz]
        show (Lib.repeatL [48] (19 - p.size)).toArray.size = _
        rw [repeat_replicate]; simp
      have hpl : p.size = (Lib.decDigits (a % 10000000000000000000)).length := by rw [← HP.out]; simp
      have HN : Hid (Lib.decDigits x = Lib.decDigits (a / 10000000000000000000) ++ (z ++ p ++ t).data.toList) := by
        show Lib.decDigits x = _
        have hda : Lib.decDigits a = Lib.decDigits (a / 10000000000000000000) ++ pad 19 (a % 10000000000000000000) := by
          have := dec_split (k := 19) (q := a / 10000000000000000000) (r := a % 10000000000000000000) (by decide) (by omega) (by omega)
          rw [show a / 10000000000000000000 * 10 ^ 19 + a % 10000000000000000000 = a from by omega] at this
          exact this
        rw [HD.out, hda]
        unfold pad
        rw [← hpl, ← HP.out, ← hzl]
        simp
      have hsz : (z ++ p ++ t).size = 19 + t.size := by
        rw [ByteArray.size_append, ByteArray.size_append]; omega
      have htot : (z ++ p ++ t).size ≤ 78 := by
        have h1 := dec_len (k := 78) (r := x) (by decide) (by omega)
        rw [HN.out, List.length_append] at h1
        have h2 : (z ++ p ++ t).data.toList.length = (z ++ p ++ t).size := by simp; omega
        omega
      have HZ := Lib.hid hsz
      have hz19 : z.size ≤ 19 := by omega
      have htot2 := htot
      rw [hsz] at htot2
      obtain ⟨s0, s1, s2, s3, s4⟩ := Q4.parts
      obtain ⟨r0, r1, r2, r3, f0, f1, f2, f3⟩ := R4.parts
      have HT3 := Lib.hid htot
      clear hz hzl hzs hpl hsz hcc hb4 htot HD HP s4 R2 Q2 Q4 hq heq q0 q1 q2 q3
      go_wp2
      go_roundw
      case rel => exact ⟨a / 10000000000000000000, z ++ p ++ t, rfl, hq256, by have := HT3.out; omega, HN, Row4.set4 R4 _ _ _ _, bsc4 B4 (by omega) _ _ _ _⟩
      case measure =>
        show 100 - (z ++ p ++ t).size < 100 - t.size
        rw [HZ.out]; omega

end Go.Proofs.YtoibaeilbolffaaGreatDoor
