/-
  RefText WholeI WholeJ RefNum NumWalk NumAny RefNear ExWalk ExAny, one behind the other: a claim holds at most 60 files.
-/
import Derived.Test.YtocffoemimghhaaGreatDoorRefLess
import Derived.Test.YtocffoemimghhaaGreatDoorGC
import Derived.Test.YtocffoemimghhaaGreatDoorGD
import Derived.Test.YtocffoemimghhaaGreatDoorGE
import Derived.Lib.ItoaWalk
import Derived.Test.YtocffoemimghhaaGreatDoorRefInt
section
namespace Go.Proofs.YtocffoemimghhaaGreatDoor
open Go.RowKit Go.Shelf

theorem digs_le {x y k : Nat} (h : y ≤ x) (hx : (digs x).length ≤ k) : (digs y).length ≤ k := digs_len.2 (Nat.lt_of_le_of_lt h (digs_len.1 hx))
theorem digs_some {x : Nat} (h : x ≠ 0) : 0 < (digs x).length := by rw [digs_pos h]; simp
/-- One byte as a text. -/
theorem byte_str (z : Nat) (Z : Int) (e : Z = (z : Int)) (W : World) : (convert 33 9 (.slice (some ⟨W.heap.size, 0, none⟩) 1 1)).run Tryz.prog (W.alloc (.cells #[.int .u8 Z] 5)) = .ok (.string ⟨#[UInt8.ofNat z]⟩) (W.alloc (.cells #[.int .u8 Z] 5)) := by
  subst e
  have h := run_convert_bytes_arg (P := Tryz.prog) (W.alloc (.cells #[.int .u8 (z : Int)] 5)) 33 5 (by kernel_rfl) (by kernel_rfl) W.heap.size 0 1 1 [(z : Int)] rfl (fun i hi => by
    obtain rfl : i = 0 := by omega
    exact cell_of_row _ W.heap.size 0 _ _ _ (heap_alloc_new W _)) 9 (by kernel_rfl)
  rw [h]
  rfl
/-- What stands at the head of Print's loop. -/
def PrAt (x y : Nat) (p : ByteArray) : Prop := if y = 0 then p.data.toList = Lib.decDigits x else Lib.decDigits x = Lib.decDigits y ++ p.data.toList
theorem PrAt.start {x : Nat} (h : x ≠ 0) : PrAt x x ⟨#[]⟩ := by unfold PrAt; rw [if_neg h]; simp
theorem PrAt.size {x y : Nat} {p : ByteArray} (h : PrAt x y p) (h0 : y ≠ 0) : p.size < (Lib.decDigits x).length := by
  unfold PrAt at h
  rw [if_neg h0] at h
  rw [h, List.length_append]
  have := dec_pos y
  have e : p.data.toList.length = p.size := by simp
  omega
theorem PrAt.next {x y : Nat} {p : ByteArray} (h : PrAt x y p) (h0 : y ≠ 0) : PrAt x (y / 10) (⟨#[UInt8.ofNat (48 + y % 10)]⟩ ++ p) := by
  unfold PrAt at h ⊢
  rw [if_neg h0] at h
  have e : (⟨#[UInt8.ofNat (48 + y % 10)]⟩ ++ p : ByteArray).data.toList = UInt8.ofNat (48 + y % 10) :: p.data.toList := by simp
  rw [e]
  by_cases h10 : y < 10
  · rw [if_pos (by omega)]; exact (dec_last y h10 _ _ h).symm
  · rw [if_neg (by omega)]; exact dec_cons y (by omega) _ _ h
theorem PrAt.stop {x : Nat} {p : ByteArray} (h : PrAt x 0 p) : p = dstr x := by
  unfold PrAt at h
  rw [if_pos rfl] at h
  exact dstr_of h
theorem dec_of_digs {x k : Nat} (hk : 1 ≤ k) (h : (digs x).length ≤ k) : (Lib.decDigits x).length ≤ 32 * k :=
  dec_len (by omega) (Nat.lt_of_lt_of_le (digs_len.1 h) (Nat.pow_le_pow_left (by decide) (32 * k)))
theorem dec_short {x : Nat} (lx : (digs x).length ≤ 1000) : (Lib.decDigits x).length ≤ 32000 := dec_of_digs (k := 1000) (by decide) lx
set_option maxHeartbeats 1000000 in
set_option maxRecDepth 100000 in
theorem rprint_core (A0 : Option Addr) (c0 n0 x : Nat) (hn : n0 = (digs x).length) (h0 : x ≠ 0) (lx : (digs x).length ≤ 1000) (w : World) (h : DR w (.slice A0 n0 c0) x) :
    Calls Tryz.prog 71 #[.slice A0 n0 c0] w fun e w' => e = .returned (.string (dstr x)) ∧ Below w.heap.size w w' := by
  obtain ⟨L, hL⟩ : ∃ L, L = (Lib.decDigits x).length := ⟨_, rfl⟩
  have hLs : L ≤ 32000 := by rw [hL]; exact dec_short lx
  obtain ⟨s0, hd0, ht⟩ := trim_keep h
  obtain ⟨A1, c1, rfl, _⟩ := hd0.form
  have hnz : (((digs x).length : Int) == 0) = false := by have := digs_some h0; rw [beq_eq_false_iff_ne]; omega
  obtain ⟨n1, hn1⟩ : ∃ n1, n1 = (digs x).length := ⟨_, rfl⟩
  rw [← hn1] at ht hd0 hnz
  have HT := Lib.hid ht; have HX := Lib.hid h; have HN := Lib.hid hn; have HL := Lib.hid hL; have H0 := Lib.hid h0; have LX := Lib.hid lx; clear ht h hn hL h0 lx hd0 hn1
  go_enter Tryz.func71, Tryz.ntmps71
  go_wp2_with fail
  (with_reducible refine (HT.out _ (Below.refl _ _)).mono ?_)
  rintro e w1 ⟨rfl, hw⟩
  rw [hw]; clear hw w1 HT
  go_wp2
  go_loopw [0, 3] (fun d v wr => ∃ (y n : Nat) (A : Option Addr) (c : Nat) (p : ByteArray), d = .slice A n c ∧ v = .string p ∧ Hid (n = (digs y).length) ∧ Hid (DR wr (.slice A n c) y) ∧ Hid (y ≤ x) ∧ Hid (PrAt x y p) ∧ Below w.heap.size w wr)
    (fun _ v _ => L + 1 - (match v with | .string t => t.size | _ => 0))
  case atStart => exact ⟨x, n0, A0, c0, ⟨#[]⟩, rfl, rfl, HN.out, HX.out, Nat.le_refl _, PrAt.start H0.out, Below.refl _ _⟩
  case round =>
    obtain ⟨y, n, A, c, p, rfl, rfl, HNY, HDY, HYX, HP, hbw⟩ := hrel
    rename World => wr
    by_cases hy : y = 0
    · have hn0 : n = 0 := by rw [HNY.out, hy, digs_zero]; rfl
      have hp : p = dstr x := by have := HP.out; rw [hy] at this; exact this.stop
      subst hn0 hp
      clear hy HNY HDY HYX HP
      go_wp2
      go_ret
      exact ⟨rfl, hbw⟩
    · have hn0 : 0 < (n : Int) := by have := digs_some hy; have := HNY.out; omega
      have hl : Calls Tryz.prog 111 #[.slice A n c, .int .u32 10] wr fun e w' => ∃ s', e = .returned (.tuple #[s', .int .u32 ((y % 10 : Nat) : Int)]) ∧ DR w' s' (y / 10) ∧ Below wr.heap.size wr w' := rless HDY.out (digs_le HYX.out LX.out) 10 (by decide) (by decide)
      obtain ⟨r, hr⟩ : ∃ r, r = y % 10 := ⟨_, rfl⟩
      rw [← hr] at hl
      have hr10 : r < 10 := by omega
      have HLS := Lib.hid hl
      have HNX : Hid (PrAt x (y / 10) (⟨#[UInt8.ofNat (48 + r)]⟩ ++ p)) := by rw [hr]; exact HP.out.next hy
      have hps := HP.out.size hy
      rw [← HL.out] at hps
      have w1 : IntKind.u8.wrap (r : Int) = (r : Int) := by rw [IntKind.wrap_u8]; omega
      have w2 : IntKind.u8.wrap (48 + (r : Int)) = 48 + (r : Int) := by rw [IntKind.wrap_u8]; omega
      have hcv := byte_str (48 + r) (48 + (r : Int)) (by omega)
      obtain ⟨z, hz⟩ : ∃ z, z = UInt8.ofNat (48 + r) := ⟨_, rfl⟩
      rw [← hz] at hcv HNX
      have hs1 : (⟨#[z]⟩ : ByteArray).size = 1 := rfl
      clear hz
      have hyx : Hid (y / 10 ≤ x) := Nat.le_trans (Nat.div_le_self _ _) HYX.out
      clear hl hr hy HP HYX HDY HNY
      go_wp2_with fail
      (with_reducible refine HLS.out.mono ?_)
      rintro e w2 ⟨s', rfl, hd, hb⟩
      obtain ⟨A2, c2, rfl, _⟩ := hd.form
      have HD2 := Lib.hid hd; have B2 := btr hbw hb
      clear hd hb
      go_wp2
      go_roundw
      case rel => exact ⟨y / 10, _, A2, c2, _, rfl, rfl, rfl, HD2.out.keep (by repeat (first | (with_reducible exact Below.refl _ _) | (with_reducible refine bal ?_ _) | (with_reducible refine Below.drew ?_) | (with_reducible refine bdn ?_ _))), hyx, HNX, by repeat (first | (with_reducible exact B2) | (with_reducible refine bal ?_ _) | (with_reducible refine Below.drew ?_) | (with_reducible refine bdn ?_ _))⟩
      case measure =>
        show L + 1 - (⟨#[z]⟩ ++ p : ByteArray).size < L + 1 - p.size
        rw [ByteArray.size_append, hs1]; omega
/-- What Print answers. -/
theorem rprint {s : Value} {x : Nat} {w : World} (h : DR w s x) (lx : (digs x).length ≤ 1000) :
    Calls Tryz.prog 71 #[s] w fun e w' => e = .returned (.string (dstr x)) ∧ Below w.heap.size w w' := by
  obtain ⟨A, c, rfl, _⟩ := h.form
  by_cases h0 : x = 0
  · subst h0
    obtain ⟨s0, hd0, ht⟩ := trim_keep h
    obtain ⟨A1, c1, rfl, _⟩ := hd0.form
    have e0 : (digs 0).length = 0 := by rw [digs_zero]; rfl
    rw [e0] at ht ⊢
    rw [show dstr 0 = ⟨#[48]⟩ from by unfold dstr; rw [dec_small (by decide)]; rfl]
    have HT := Lib.hid ht; clear ht h hd0
    go_enter Tryz.func71, Tryz.ntmps71
    go_wp2_with fail
    (with_reducible refine (HT.out _ (Below.refl _ _)).mono ?_)
    rintro e w1 ⟨rfl, hw⟩
    rw [hw]; clear hw w1 HT
    go_wp2
    go_ret
    exact ⟨rfl, Below.refl _ _⟩
  · exact rprint_core A c _ x rfl h0 lx w h
theorem ten_new (W : World) (z : Nat) (hz0 : z ≠ 0) (hz : z < 4294967296) (Z : Int) (e : Z = (z : Int)) : DR (W.alloc (.cells #[.int .u32 Z] 92)) (.slice (some ⟨W.heap.size, 0, none⟩) 1 1) z := by
  subst e
  have ed : digs z = [z] := by rw [digs_pos hz0, Nat.mod_eq_of_lt hz, Nat.div_eq_of_lt hz, digs_zero]
  unfold DR
  rw [ed]
  refine .inr ⟨W.heap.size, 0, 1, rfl, ⟨Nat.le_refl 1, by decide⟩, by simp, fun i hi => ?_⟩
  obtain rfl : i = 0 := by simp at hi; omega
  exact cell_of_row _ W.heap.size 0 _ _ _ (heap_alloc_new W _)
end Go.Proofs.YtocffoemimghhaaGreatDoor
end
section
namespace Go.Proofs.YtocffoemimghhaaGreatDoor
open Go.RowKit Go.Shelf
attribute [local go_sem ↓] eql_nat neq_nat eql_int5 neq_int5

end Go.Proofs.YtocffoemimghhaaGreatDoor
end
section
namespace Go.Proofs.YtocffoemimghhaaGreatDoor
open Go.RowKit Go.Shelf
attribute [local go_sem ↓] eql_nat neq_nat eql_int5 neq_int5

/-- An integer's decimals. -/
def zstr (z : Int) : ByteArray := if z < 0 then ⟨#[45]⟩ ++ dstr z.natAbs else dstr z.natAbs
/-- What a text is read as. -/
def parseZ (s : ByteArray) : Option Int :=
  match parseN ⟨(Lib.trimPrefix s.data.toList [45]).toArray⟩ with
  | some v => if Lib.hasPrefix s.data.toList [45] then (if v = 0 then none else some (-(v : Int))) else some (v : Int)
  | none => none
def ZEnd (o : Option Int) : Value := match o with
  | some z => .tuple #[Iz z, .bool true]
  | none => .tuple #[Z5, .bool false]
end Go.Proofs.YtocffoemimghhaaGreatDoor
end
section
namespace Go.Proofs.YtocffoemimghhaaGreatDoor
open Go.RowKit Go.Shelf
attribute [local go_sem ↓] eql_nat neq_nat eql_int5 neq_int5

set_option maxRecDepth 100000 in
theorem rsmall_yes (x0 x1 x2 x3 : Int) (z1 : (x1 == 0) = true) (z2 : (x2 == 0) = true) (z3 : (x3 == 0) = true) (w : World) :
    Calls Tryz.prog 151 #[.agg #[.int .u64 x0, .int .u64 x1, .int .u64 x2, .int .u64 x3]] w fun e w' => e = .returned (.bool true) ∧ Below w.heap.size w w' := by
  go_enter Tryz.func151, Tryz.ntmps151
  go_wp2
  go_ret
  exact ⟨rfl, by repeat (first | (with_reducible exact Below.refl _ _) | (with_reducible refine bal ?_ _) | (with_reducible refine Below.drew ?_) | (with_reducible refine bdn ?_ _))⟩
set_option maxRecDepth 100000 in
theorem rsmall_no1 (x0 x1 x2 x3 : Int) (z1 : (x1 == 0) = false) (w : World) :
    Calls Tryz.prog 151 #[.agg #[.int .u64 x0, .int .u64 x1, .int .u64 x2, .int .u64 x3]] w fun e w' => e = .returned (.bool false) ∧ Below w.heap.size w w' := by
  go_enter Tryz.func151, Tryz.ntmps151
  go_wp2
  go_ret
  exact ⟨rfl, by repeat (first | (with_reducible exact Below.refl _ _) | (with_reducible refine bal ?_ _) | (with_reducible refine Below.drew ?_) | (with_reducible refine bdn ?_ _))⟩
set_option maxRecDepth 100000 in
theorem rsmall_no2 (x0 x1 x2 x3 : Int) (z1 : (x1 == 0) = true) (z2 : (x2 == 0) = false) (w : World) :
    Calls Tryz.prog 151 #[.agg #[.int .u64 x0, .int .u64 x1, .int .u64 x2, .int .u64 x3]] w fun e w' => e = .returned (.bool false) ∧ Below w.heap.size w w' := by
  go_enter Tryz.func151, Tryz.ntmps151
  go_wp2
  go_ret
  exact ⟨rfl, by repeat (first | (with_reducible exact Below.refl _ _) | (with_reducible refine bal ?_ _) | (with_reducible refine Below.drew ?_) | (with_reducible refine bdn ?_ _))⟩
set_option maxRecDepth 100000 in
theorem rsmall_no3 (x0 x1 x2 x3 : Int) (z1 : (x1 == 0) = true) (z2 : (x2 == 0) = true) (z3 : (x3 == 0) = false) (w : World) :
    Calls Tryz.prog 151 #[.agg #[.int .u64 x0, .int .u64 x1, .int .u64 x2, .int .u64 x3]] w fun e w' => e = .returned (.bool false) ∧ Below w.heap.size w w' := by
  go_enter Tryz.func151, Tryz.ntmps151
  go_wp2
  go_ret
  exact ⟨rfl, by repeat (first | (with_reducible exact Below.refl _ _) | (with_reducible refine bal ?_ _) | (with_reducible refine Below.drew ?_) | (with_reducible refine bdn ?_ _))⟩
set_option maxRecDepth 100000 in
theorem rtoint_big (x0 x1 x2 x3 : Int) (g : Bool)
    (m1 : ∀ W, Calls Tryz.prog 69 #[.agg #[.bool g, .int .u64 x0, .int .u64 x1, .int .u64 x2, .int .u64 x3]] W fun e w' => e = .returned (.bool true) ∧ Below W.heap.size W w') (m2 : ∀ W, Calls Tryz.prog 151 #[.agg #[.int .u64 x0, .int .u64 x1, .int .u64 x2, .int .u64 x3]] W fun e w' => e = .returned (.bool false) ∧ Below W.heap.size W w') (w : World) :
    Calls Tryz.prog 107 #[.agg #[.bool g, .int .u64 x0, .int .u64 x1, .int .u64 x2, .int .u64 x3]] w fun e w' => e = .returned (.tuple #[.int .i64 0, .bool false]) ∧ Below w.heap.size w w' := by
  have M1 := Lib.hid m1; clear m1
  have M2 := Lib.hid m2; clear m2
  go_enter Tryz.func107, Tryz.ntmps107
  go_wp2_with fail
  refine (M1.out _).mono ?_
  rintro e w1 ⟨rfl, hb⟩
  have BW1 : Below w.heap.size w w1 := btr (by repeat (first | (with_reducible exact Below.refl _ _) | (with_reducible refine bal ?_ _) | (with_reducible refine Below.drew ?_) | (with_reducible refine bdn ?_ _))) hb
  have X1 : Row5 w1 w.heap.size (.bool g) (.int .u64 x0) (.int .u64 x1) (.int .u64 x2) (.int .u64 x3) := Row5.keep hb (by repeat (first | (with_reducible exact Row5.new _ _ _ _ _ _) | ((with_reducible refine Row5.new' _ ?_ _ _ _ _ _); (simp; done)) | (with_reducible refine Row5.alloc ?_ _) | (with_reducible refine Row5.drew ?_)))
  clear hb
  obtain ⟨Xc0, Xc1, Xc2, Xc3, Xc4⟩ := X1.parts
  obtain ⟨Xf0, Xf1, Xf2, Xf3, Xf4⟩ := X1.free
  go_wp2_with fail
  refine (M2.out _).mono ?_
  rintro e w2 ⟨rfl, hb⟩
  have BW2 : Below w.heap.size w w2 := btr (by repeat (first | (with_reducible exact BW1) | (with_reducible refine bal ?_ _) | (with_reducible refine Below.drew ?_) | (with_reducible refine bdn ?_ _))) hb
  have X2 : Row5 w2 w.heap.size (.bool g) (.int .u64 x0) (.int .u64 x1) (.int .u64 x2) (.int .u64 x3) := Row5.keep hb (by repeat (first | (with_reducible exact X1) | (with_reducible refine Row5.alloc ?_ _) | (with_reducible refine Row5.drew ?_)))
  clear X1
  clear BW1
  clear hb
  obtain ⟨Xc0, Xc1, Xc2, Xc3, Xc4⟩ := X2.parts
  obtain ⟨Xf0, Xf1, Xf2, Xf3, Xf4⟩ := X2.free
  go_wp2
  exact bodyPost_ret (v := .tuple #[.int .i64 0, .bool false]) (by simp [results, Tryz.results107, go_sem]) rfl ⟨rfl, BW2⟩
set_option maxRecDepth 100000 in
theorem rtoint_neg (x0 x1 x2 x3 : Int) (p q : Int) (h0 : 1 ≤ x0) (h1 : x0 ≤ 9223372036854775808) (hp : IntKind.u64.wrap (x0 - 1) = p) (hq : IntKind.i64.wrap p = p) (hr : IntKind.i64.wrap (-p) = q) (hs : IntKind.i64.wrap (q - 1) = -x0)
    (m1 : ∀ W, Calls Tryz.prog 69 #[.agg #[.bool true, .int .u64 x0, .int .u64 x1, .int .u64 x2, .int .u64 x3]] W fun e w' => e = .returned (.bool true) ∧ Below W.heap.size W w') (m2 : ∀ W, Calls Tryz.prog 151 #[.agg #[.int .u64 x0, .int .u64 x1, .int .u64 x2, .int .u64 x3]] W fun e w' => e = .returned (.bool true) ∧ Below W.heap.size W w') (w : World) :
    Calls Tryz.prog 107 #[.agg #[.bool true, .int .u64 x0, .int .u64 x1, .int .u64 x2, .int .u64 x3]] w fun e w' => e = .returned (.tuple #[.int .i64 (-x0), .bool true]) ∧ Below w.heap.size w w' := by
  have M1 := Lib.hid m1; clear m1
  have M2 := Lib.hid m2; clear m2
  go_enter Tryz.func107, Tryz.ntmps107
  go_wp2_with fail
  refine (M1.out _).mono ?_
  rintro e w1 ⟨rfl, hb⟩
  have BW1 : Below w.heap.size w w1 := btr (by repeat (first | (with_reducible exact Below.refl _ _) | (with_reducible refine bal ?_ _) | (with_reducible refine Below.drew ?_) | (with_reducible refine bdn ?_ _))) hb
  have X1 : Row5 w1 w.heap.size (.bool true) (.int .u64 x0) (.int .u64 x1) (.int .u64 x2) (.int .u64 x3) := Row5.keep hb (by repeat (first | (with_reducible exact Row5.new _ _ _ _ _ _) | ((with_reducible refine Row5.new' _ ?_ _ _ _ _ _); (simp; done)) | (with_reducible refine Row5.alloc ?_ _) | (with_reducible refine Row5.drew ?_)))
  clear hb
  obtain ⟨Xc0, Xc1, Xc2, Xc3, Xc4⟩ := X1.parts
  obtain ⟨Xf0, Xf1, Xf2, Xf3, Xf4⟩ := X1.free
  go_wp2_with fail
  refine (M2.out _).mono ?_
  rintro e w2 ⟨rfl, hb⟩
  have BW2 : Below w.heap.size w w2 := btr (by repeat (first | (with_reducible exact BW1) | (with_reducible refine bal ?_ _) | (with_reducible refine Below.drew ?_) | (with_reducible refine bdn ?_ _))) hb
  have X2 : Row5 w2 w.heap.size (.bool true) (.int .u64 x0) (.int .u64 x1) (.int .u64 x2) (.int .u64 x3) := Row5.keep hb (by repeat (first | (with_reducible exact X1) | (with_reducible refine Row5.alloc ?_ _) | (with_reducible refine Row5.drew ?_)))
  clear X1
  clear BW1
  clear hb
  obtain ⟨Xc0, Xc1, Xc2, Xc3, Xc4⟩ := X2.parts
  obtain ⟨Xf0, Xf1, Xf2, Xf3, Xf4⟩ := X2.free
  go_wp2
  exact bodyPost_ret (v := .tuple #[.int .i64 (-x0), .bool true]) (by simp [results, Tryz.results107, go_sem]) rfl ⟨rfl, BW2⟩
set_option maxRecDepth 100000 in
theorem rtoint_negover (x0 x1 x2 x3 : Int) (h1 : 9223372036854775808 < x0)
    (m1 : ∀ W, Calls Tryz.prog 69 #[.agg #[.bool true, .int .u64 x0, .int .u64 x1, .int .u64 x2, .int .u64 x3]] W fun e w' => e = .returned (.bool true) ∧ Below W.heap.size W w') (m2 : ∀ W, Calls Tryz.prog 151 #[.agg #[.int .u64 x0, .int .u64 x1, .int .u64 x2, .int .u64 x3]] W fun e w' => e = .returned (.bool true) ∧ Below W.heap.size W w') (w : World) :
    Calls Tryz.prog 107 #[.agg #[.bool true, .int .u64 x0, .int .u64 x1, .int .u64 x2, .int .u64 x3]] w fun e w' => e = .returned (.tuple #[.int .i64 0, .bool false]) ∧ Below w.heap.size w w' := by
  have M1 := Lib.hid m1; clear m1
  have M2 := Lib.hid m2; clear m2
  go_enter Tryz.func107, Tryz.ntmps107
  go_wp2_with fail
  refine (M1.out _).mono ?_
  rintro e w1 ⟨rfl, hb⟩
  have BW1 : Below w.heap.size w w1 := btr (by repeat (first | (with_reducible exact Below.refl _ _) | (with_reducible refine bal ?_ _) | (with_reducible refine Below.drew ?_) | (with_reducible refine bdn ?_ _))) hb
  have X1 : Row5 w1 w.heap.size (.bool true) (.int .u64 x0) (.int .u64 x1) (.int .u64 x2) (.int .u64 x3) := Row5.keep hb (by repeat (first | (with_reducible exact Row5.new _ _ _ _ _ _) | ((with_reducible refine Row5.new' _ ?_ _ _ _ _ _); (simp; done)) | (with_reducible refine Row5.alloc ?_ _) | (with_reducible refine Row5.drew ?_)))
  clear hb
  obtain ⟨Xc0, Xc1, Xc2, Xc3, Xc4⟩ := X1.parts
  obtain ⟨Xf0, Xf1, Xf2, Xf3, Xf4⟩ := X1.free
  go_wp2_with fail
  refine (M2.out _).mono ?_
  rintro e w2 ⟨rfl, hb⟩
  have BW2 : Below w.heap.size w w2 := btr (by repeat (first | (with_reducible exact BW1) | (with_reducible refine bal ?_ _) | (with_reducible refine Below.drew ?_) | (with_reducible refine bdn ?_ _))) hb
  have X2 : Row5 w2 w.heap.size (.bool true) (.int .u64 x0) (.int .u64 x1) (.int .u64 x2) (.int .u64 x3) := Row5.keep hb (by repeat (first | (with_reducible exact X1) | (with_reducible refine Row5.alloc ?_ _) | (with_reducible refine Row5.drew ?_)))
  clear X1
  clear BW1
  clear hb
  obtain ⟨Xc0, Xc1, Xc2, Xc3, Xc4⟩ := X2.parts
  obtain ⟨Xf0, Xf1, Xf2, Xf3, Xf4⟩ := X2.free
  go_wp2
  exact bodyPost_ret (v := .tuple #[.int .i64 0, .bool false]) (by simp [results, Tryz.results107, go_sem]) rfl ⟨rfl, BW2⟩
set_option maxRecDepth 100000 in
theorem rtoint_pos (x0 x1 x2 x3 : Int) (h0 : 0 ≤ x0) (h1 : x0 ≤ 9223372036854775807) (hq : IntKind.i64.wrap x0 = x0)
    (m1 : ∀ W, Calls Tryz.prog 69 #[.agg #[.bool false, .int .u64 x0, .int .u64 x1, .int .u64 x2, .int .u64 x3]] W fun e w' => e = .returned (.bool true) ∧ Below W.heap.size W w') (m2 : ∀ W, Calls Tryz.prog 151 #[.agg #[.int .u64 x0, .int .u64 x1, .int .u64 x2, .int .u64 x3]] W fun e w' => e = .returned (.bool true) ∧ Below W.heap.size W w') (w : World) :
    Calls Tryz.prog 107 #[.agg #[.bool false, .int .u64 x0, .int .u64 x1, .int .u64 x2, .int .u64 x3]] w fun e w' => e = .returned (.tuple #[.int .i64 x0, .bool true]) ∧ Below w.heap.size w w' := by
  have M1 := Lib.hid m1; clear m1
  have M2 := Lib.hid m2; clear m2
  go_enter Tryz.func107, Tryz.ntmps107
  go_wp2_with fail
  refine (M1.out _).mono ?_
  rintro e w1 ⟨rfl, hb⟩
  have BW1 : Below w.heap.size w w1 := btr (by repeat (first | (with_reducible exact Below.refl _ _) | (with_reducible refine bal ?_ _) | (with_reducible refine Below.drew ?_) | (with_reducible refine bdn ?_ _))) hb
  have X1 : Row5 w1 w.heap.size (.bool false) (.int .u64 x0) (.int .u64 x1) (.int .u64 x2) (.int .u64 x3) := Row5.keep hb (by repeat (first | (with_reducible exact Row5.new _ _ _ _ _ _) | ((with_reducible refine Row5.new' _ ?_ _ _ _ _ _); (simp; done)) | (with_reducible refine Row5.alloc ?_ _) | (with_reducible refine Row5.drew ?_)))
  clear hb
  obtain ⟨Xc0, Xc1, Xc2, Xc3, Xc4⟩ := X1.parts
  obtain ⟨Xf0, Xf1, Xf2, Xf3, Xf4⟩ := X1.free
  go_wp2_with fail
  refine (M2.out _).mono ?_
  rintro e w2 ⟨rfl, hb⟩
  have BW2 : Below w.heap.size w w2 := btr (by repeat (first | (with_reducible exact BW1) | (with_reducible refine bal ?_ _) | (with_reducible refine Below.drew ?_) | (with_reducible refine bdn ?_ _))) hb
  have X2 : Row5 w2 w.heap.size (.bool false) (.int .u64 x0) (.int .u64 x1) (.int .u64 x2) (.int .u64 x3) := Row5.keep hb (by repeat (first | (with_reducible exact X1) | (with_reducible refine Row5.alloc ?_ _) | (with_reducible refine Row5.drew ?_)))
  clear X1
  clear BW1
  clear hb
  obtain ⟨Xc0, Xc1, Xc2, Xc3, Xc4⟩ := X2.parts
  obtain ⟨Xf0, Xf1, Xf2, Xf3, Xf4⟩ := X2.free
  go_wp2
  exact bodyPost_ret (v := .tuple #[.int .i64 x0, .bool true]) (by simp [results, Tryz.results107, go_sem]) rfl ⟨rfl, BW2⟩
set_option maxRecDepth 100000 in
theorem rtoint_posover (x0 x1 x2 x3 : Int) (h1 : 9223372036854775807 < x0)
    (m1 : ∀ W, Calls Tryz.prog 69 #[.agg #[.bool false, .int .u64 x0, .int .u64 x1, .int .u64 x2, .int .u64 x3]] W fun e w' => e = .returned (.bool true) ∧ Below W.heap.size W w') (m2 : ∀ W, Calls Tryz.prog 151 #[.agg #[.int .u64 x0, .int .u64 x1, .int .u64 x2, .int .u64 x3]] W fun e w' => e = .returned (.bool true) ∧ Below W.heap.size W w') (w : World) :
    Calls Tryz.prog 107 #[.agg #[.bool false, .int .u64 x0, .int .u64 x1, .int .u64 x2, .int .u64 x3]] w fun e w' => e = .returned (.tuple #[.int .i64 0, .bool false]) ∧ Below w.heap.size w w' := by
  have M1 := Lib.hid m1; clear m1
  have M2 := Lib.hid m2; clear m2
  go_enter Tryz.func107, Tryz.ntmps107
  go_wp2_with fail
  refine (M1.out _).mono ?_
  rintro e w1 ⟨rfl, hb⟩
  have BW1 : Below w.heap.size w w1 := btr (by repeat (first | (with_reducible exact Below.refl _ _) | (with_reducible refine bal ?_ _) | (with_reducible refine Below.drew ?_) | (with_reducible refine bdn ?_ _))) hb
  have X1 : Row5 w1 w.heap.size (.bool false) (.int .u64 x0) (.int .u64 x1) (.int .u64 x2) (.int .u64 x3) := Row5.keep hb (by repeat (first | (with_reducible exact Row5.new _ _ _ _ _ _) | ((with_reducible refine Row5.new' _ ?_ _ _ _ _ _); (simp; done)) | (with_reducible refine Row5.alloc ?_ _) | (with_reducible refine Row5.drew ?_)))
  clear hb
  obtain ⟨Xc0, Xc1, Xc2, Xc3, Xc4⟩ := X1.parts
  obtain ⟨Xf0, Xf1, Xf2, Xf3, Xf4⟩ := X1.free
  go_wp2_with fail
  refine (M2.out _).mono ?_
  rintro e w2 ⟨rfl, hb⟩
  have BW2 : Below w.heap.size w w2 := btr (by repeat (first | (with_reducible exact BW1) | (with_reducible refine bal ?_ _) | (with_reducible refine Below.drew ?_) | (with_reducible refine bdn ?_ _))) hb
  have X2 : Row5 w2 w.heap.size (.bool false) (.int .u64 x0) (.int .u64 x1) (.int .u64 x2) (.int .u64 x3) := Row5.keep hb (by repeat (first | (with_reducible exact X1) | (with_reducible refine Row5.alloc ?_ _) | (with_reducible refine Row5.drew ?_)))
  clear X1
  clear BW1
  clear hb
  obtain ⟨Xc0, Xc1, Xc2, Xc3, Xc4⟩ := X2.parts
  obtain ⟨Xf0, Xf1, Xf2, Xf3, Xf4⟩ := X2.free
  go_wp2
  exact bodyPost_ret (v := .tuple #[.int .i64 0, .bool false]) (by simp [results, Tryz.results107, go_sem]) rfl ⟨rfl, BW2⟩
set_option maxRecDepth 100000 in
theorem rtouint_neg (x0 x1 x2 x3 : Int) 
    (m1 : ∀ W, Calls Tryz.prog 69 #[.agg #[.bool true, .int .u64 x0, .int .u64 x1, .int .u64 x2, .int .u64 x3]] W fun e w' => e = .returned (.bool true) ∧ Below W.heap.size W w') (w : World) :
    Calls Tryz.prog 106 #[.agg #[.bool true, .int .u64 x0, .int .u64 x1, .int .u64 x2, .int .u64 x3]] w fun e w' => e = .returned (.tuple #[.int .u64 0, .bool false]) ∧ Below w.heap.size w w' := by
  have M1 := Lib.hid m1; clear m1
  go_enter Tryz.func106, Tryz.ntmps106
  go_wp2_with fail
  refine (M1.out _).mono ?_
  rintro e w1 ⟨rfl, hb⟩
  have BW1 : Below w.heap.size w w1 := btr (by repeat (first | (with_reducible exact Below.refl _ _) | (with_reducible refine bal ?_ _) | (with_reducible refine Below.drew ?_) | (with_reducible refine bdn ?_ _))) hb
  have X1 : Row5 w1 w.heap.size (.bool true) (.int .u64 x0) (.int .u64 x1) (.int .u64 x2) (.int .u64 x3) := Row5.keep hb (by repeat (first | (with_reducible exact Row5.new _ _ _ _ _ _) | ((with_reducible refine Row5.new' _ ?_ _ _ _ _ _); (simp; done)) | (with_reducible refine Row5.alloc ?_ _) | (with_reducible refine Row5.drew ?_)))
  clear hb
  obtain ⟨Xc0, Xc1, Xc2, Xc3, Xc4⟩ := X1.parts
  obtain ⟨Xf0, Xf1, Xf2, Xf3, Xf4⟩ := X1.free
  go_wp2
  exact bodyPost_ret (v := .tuple #[.int .u64 0, .bool false]) (by simp [results, Tryz.results106, go_sem]) rfl ⟨rfl, BW1⟩
set_option maxRecDepth 100000 in
theorem rtouint_big (x0 x1 x2 x3 : Int) 
    (m1 : ∀ W, Calls Tryz.prog 69 #[.agg #[.bool false, .int .u64 x0, .int .u64 x1, .int .u64 x2, .int .u64 x3]] W fun e w' => e = .returned (.bool true) ∧ Below W.heap.size W w') (m2 : ∀ W, Calls Tryz.prog 151 #[.agg #[.int .u64 x0, .int .u64 x1, .int .u64 x2, .int .u64 x3]] W fun e w' => e = .returned (.bool false) ∧ Below W.heap.size W w') (w : World) :
    Calls Tryz.prog 106 #[.agg #[.bool false, .int .u64 x0, .int .u64 x1, .int .u64 x2, .int .u64 x3]] w fun e w' => e = .returned (.tuple #[.int .u64 0, .bool false]) ∧ Below w.heap.size w w' := by
  have M1 := Lib.hid m1; clear m1
  have M2 := Lib.hid m2; clear m2
  go_enter Tryz.func106, Tryz.ntmps106
  go_wp2_with fail
  refine (M1.out _).mono ?_
  rintro e w1 ⟨rfl, hb⟩
  have BW1 : Below w.heap.size w w1 := btr (by repeat (first | (with_reducible exact Below.refl _ _) | (with_reducible refine bal ?_ _) | (with_reducible refine Below.drew ?_) | (with_reducible refine bdn ?_ _))) hb
  have X1 : Row5 w1 w.heap.size (.bool false) (.int .u64 x0) (.int .u64 x1) (.int .u64 x2) (.int .u64 x3) := Row5.keep hb (by repeat (first | (with_reducible exact Row5.new _ _ _ _ _ _) | ((with_reducible refine Row5.new' _ ?_ _ _ _ _ _); (simp; done)) | (with_reducible refine Row5.alloc ?_ _) | (with_reducible refine Row5.drew ?_)))
  clear hb
  obtain ⟨Xc0, Xc1, Xc2, Xc3, Xc4⟩ := X1.parts
  obtain ⟨Xf0, Xf1, Xf2, Xf3, Xf4⟩ := X1.free
  go_wp2_with fail
  refine (M2.out _).mono ?_
  rintro e w2 ⟨rfl, hb⟩
  have BW2 : Below w.heap.size w w2 := btr (by repeat (first | (with_reducible exact BW1) | (with_reducible refine bal ?_ _) | (with_reducible refine Below.drew ?_) | (with_reducible refine bdn ?_ _))) hb
  have X2 : Row5 w2 w.heap.size (.bool false) (.int .u64 x0) (.int .u64 x1) (.int .u64 x2) (.int .u64 x3) := Row5.keep hb (by repeat (first | (with_reducible exact X1) | (with_reducible refine Row5.alloc ?_ _) | (with_reducible refine Row5.drew ?_)))
  clear X1
  clear BW1
  clear hb
  obtain ⟨Xc0, Xc1, Xc2, Xc3, Xc4⟩ := X2.parts
  obtain ⟨Xf0, Xf1, Xf2, Xf3, Xf4⟩ := X2.free
  go_wp2
  exact bodyPost_ret (v := .tuple #[.int .u64 0, .bool false]) (by simp [results, Tryz.results106, go_sem]) rfl ⟨rfl, BW2⟩
set_option maxRecDepth 100000 in
theorem rtouint_pos (x0 x1 x2 x3 : Int) 
    (m1 : ∀ W, Calls Tryz.prog 69 #[.agg #[.bool false, .int .u64 x0, .int .u64 x1, .int .u64 x2, .int .u64 x3]] W fun e w' => e = .returned (.bool true) ∧ Below W.heap.size W w') (m2 : ∀ W, Calls Tryz.prog 151 #[.agg #[.int .u64 x0, .int .u64 x1, .int .u64 x2, .int .u64 x3]] W fun e w' => e = .returned (.bool true) ∧ Below W.heap.size W w') (w : World) :
    Calls Tryz.prog 106 #[.agg #[.bool false, .int .u64 x0, .int .u64 x1, .int .u64 x2, .int .u64 x3]] w fun e w' => e = .returned (.tuple #[.int .u64 x0, .bool true]) ∧ Below w.heap.size w w' := by
  have M1 := Lib.hid m1; clear m1
  have M2 := Lib.hid m2; clear m2
  go_enter Tryz.func106, Tryz.ntmps106
  go_wp2_with fail
  refine (M1.out _).mono ?_
  rintro e w1 ⟨rfl, hb⟩
  have BW1 : Below w.heap.size w w1 := btr (by repeat (first | (with_reducible exact Below.refl _ _) | (with_reducible refine bal ?_ _) | (with_reducible refine Below.drew ?_) | (with_reducible refine bdn ?_ _))) hb
  have X1 : Row5 w1 w.heap.size (.bool false) (.int .u64 x0) (.int .u64 x1) (.int .u64 x2) (.int .u64 x3) := Row5.keep hb (by repeat (first | (with_reducible exact Row5.new _ _ _ _ _ _) | ((with_reducible refine Row5.new' _ ?_ _ _ _ _ _); (simp; done)) | (with_reducible refine Row5.alloc ?_ _) | (with_reducible refine Row5.drew ?_)))
  clear hb
  obtain ⟨Xc0, Xc1, Xc2, Xc3, Xc4⟩ := X1.parts
  obtain ⟨Xf0, Xf1, Xf2, Xf3, Xf4⟩ := X1.free
  go_wp2_with fail
  refine (M2.out _).mono ?_
  rintro e w2 ⟨rfl, hb⟩
  have BW2 : Below w.heap.size w w2 := btr (by repeat (first | (with_reducible exact BW1) | (with_reducible refine bal ?_ _) | (with_reducible refine Below.drew ?_) | (with_reducible refine bdn ?_ _))) hb
  have X2 : Row5 w2 w.heap.size (.bool false) (.int .u64 x0) (.int .u64 x1) (.int .u64 x2) (.int .u64 x3) := Row5.keep hb (by repeat (first | (with_reducible exact X1) | (with_reducible refine Row5.alloc ?_ _) | (with_reducible refine Row5.drew ?_)))
  clear X1
  clear BW1
  clear hb
  obtain ⟨Xc0, Xc1, Xc2, Xc3, Xc4⟩ := X2.parts
  obtain ⟨Xf0, Xf1, Xf2, Xf3, Xf4⟩ := X2.free
  go_wp2
  exact bodyPost_ret (v := .tuple #[.int .u64 x0, .bool true]) (by simp [results, Tryz.results106, go_sem]) rfl ⟨rfl, BW2⟩
end Go.Proofs.YtocffoemimghhaaGreatDoor
end
section
namespace Go.Proofs.YtocffoemimghhaaGreatDoor
open Go.RowKit Go.Shelf
open Go.Sort (grow)
attribute [local go_sem ↓] eql_nat neq_nat eql_int5 neq_int5

end Go.Proofs.YtocffoemimghhaaGreatDoor
end
section
namespace Go.Proofs.YtocffoemimghhaaGreatDoor
open Go.RowKit Go.Shelf

theorem rsmall_any (x : Nat) (hx : x < 2 ^ 256) (w : World) :
    Calls Tryz.prog 151 #[N4 x] w fun e w' => e = .returned (.bool (decide (x < 18446744073709551616))) ∧ Below w.heap.size w w' := by
  have l1 := lb1 x; have l2 := lb2 x; have l3 := lb3 x
  have hs := lb_sum x hx
  unfold val4 at hs
  have l0 := lb0 x
  cases h1 : (lb 1 x == 0) with
  | false =>
    have h1' := h1
    rw [beq_eq_false_iff_ne] at h1'
    rw [decide_eq_false (by omega)]
    exact rsmall_no1 _ _ _ _ h1 w
  | true =>
    cases h2 : (lb 2 x == 0) with
    | false =>
      have h2' := h2
      rw [beq_eq_false_iff_ne] at h2'
      rw [decide_eq_false (by omega)]
      exact rsmall_no2 _ _ _ _ h1 h2 w
    | true =>
      cases h3 : (lb 3 x == 0) with
      | false =>
        have h3' := h3
        rw [beq_eq_false_iff_ne] at h3'
        rw [decide_eq_false (by omega)]
        exact rsmall_no3 _ _ _ _ h1 h2 h3 w
      | true =>
        have h1' := eq_of_beq h1; have h2' := eq_of_beq h2; have h3' := eq_of_beq h3
        rw [decide_eq_true (by omega)]
        exact rsmall_yes _ _ _ _ h1 h2 h3 w
theorem rmay_good (g : Bool) (x : Nat) (hx : x < 2 ^ 256) (h : ¬ (g = true ∧ x = 0)) (w : World) :
    Calls Tryz.prog 69 #[I5 g x] w fun e w' => e = .returned (.bool true) ∧ Below w.heap.size w w' := by
  cases g with
  | false => exact rmay_pos _ _ _ _ w
  | true =>
    have hm := rmay_neg (lb 0 x) (lb 1 x) (lb 2 x) (lb 3 x) w
    rw [show eq4 (lb 0 x) (lb 1 x) (lb 2 x) (lb 3 x) 0 0 0 0 = false from (eq4_of x 0 hx (by decide)).trans (decide_eq_false (fun h0 => h ⟨rfl, h0⟩))] at hm
    exact hm
theorem rtoint_z (z : Int) (hz : z.natAbs < 2 ^ 256) (w : World) :
    Calls Tryz.prog 107 #[Iz z] w fun e w' => e = .returned (Znt .i64 z (decide (-9223372036854775808 ≤ z ∧ z < 9223372036854775808))) ∧ Below w.heap.size w w' := by
  rcases sgn z with ⟨n, rfl⟩ | ⟨n, hn, rfl⟩
  · have hn2 : n < 2 ^ 256 := by omega
    have hs := fun W => rsmall_any n hn2 W
    have hm := fun W => rmay_good false n hn2 (fun h => by cases h.1) W
    have l0 := lb0 n
    rw [Iz_nat]
    by_cases hb : n < 18446744073709551616
    · rw [decide_eq_true hb] at hs
      have e0 : lb 0 n = (n : Int) := by omega
      by_cases h63 : n ≤ 9223372036854775807
      · rw [decide_eq_true (by omega)]
        have := rtoint_pos (lb 0 n) (lb 1 n) (lb 2 n) (lb 3 n) (by omega) (by omega) (by rw [Go.IntWalk.i64_in _ (by omega)]) hm hs w
        rw [e0] at this
        unfold I5 Znt
        rw [e0]
        exact this
      · rw [decide_eq_false (by omega)]
        exact rtoint_posover _ _ _ _ (by omega) hm hs w
    · rw [decide_eq_false hb] at hs
      rw [decide_eq_false (by omega)]
      exact rtoint_big _ _ _ _ false hm hs w
  · have hn2 : n < 2 ^ 256 := by omega
    have hs := fun W => rsmall_any n hn2 W
    have hm := fun W => rmay_good true n hn2 (fun h => hn h.2) W
    have l0 := lb0 n
    rw [Iz_neg hn]
    by_cases hb : n < 18446744073709551616
    · rw [decide_eq_true hb] at hs
      have e0 : lb 0 n = (n : Int) := by omega
      by_cases h63 : n ≤ 9223372036854775808
      · rw [decide_eq_true (by omega)]
        have := rtoint_neg (lb 0 n) (lb 1 n) (lb 2 n) (lb 3 n) (lb 0 n - 1) (-(lb 0 n - 1)) (by omega) (by omega) (by rw [IntKind.wrap_u64]; omega) (by rw [Go.IntWalk.i64_in _ (by omega)]) (by rw [Go.IntWalk.i64_in _ (by omega)]) (by rw [Go.IntWalk.i64_in _ (by omega)]; omega) hm hs w
        unfold I5 Znt
        rw [e0] at this ⊢
        exact this
      · rw [decide_eq_false (by omega)]
        exact rtoint_negover _ _ _ _ (by omega) hm hs w
    · rw [decide_eq_false hb] at hs
      rw [decide_eq_false (by omega)]
      exact rtoint_big _ _ _ _ true hm hs w
theorem rtouint_z (z : Int) (hz : z.natAbs < 2 ^ 256) (w : World) :
    Calls Tryz.prog 106 #[Iz z] w fun e w' => e = .returned (Znt .u64 z (decide (0 ≤ z ∧ z < 18446744073709551616))) ∧ Below w.heap.size w w' := by
  rcases sgn z with ⟨n, rfl⟩ | ⟨n, hn, rfl⟩
  · have hn2 : n < 2 ^ 256 := by omega
    have hs := fun W => rsmall_any n hn2 W
    have hm := fun W => rmay_good false n hn2 (fun h => by cases h.1) W
    have l0 := lb0 n
    rw [Iz_nat]
    by_cases hb : n < 18446744073709551616
    · rw [decide_eq_true hb] at hs
      have e0 : lb 0 n = (n : Int) := by omega
      rw [decide_eq_true (by omega)]
      have := rtouint_pos (lb 0 n) (lb 1 n) (lb 2 n) (lb 3 n) hm hs w
      unfold I5 Znt
      rw [e0] at this ⊢
      exact this
    · rw [decide_eq_false hb] at hs
      rw [decide_eq_false (by omega)]
      exact rtouint_big _ _ _ _ hm hs w
  · have hn2 : n < 2 ^ 256 := by omega
    have hm := fun W => rmay_good true n hn2 (fun h => hn h.2) W
    rw [Iz_neg hn, decide_eq_false (by omega)]
    exact rtouint_neg _ _ _ _ hm w
end Go.Proofs.YtocffoemimghhaaGreatDoor
end
section
namespace Go.Proofs.YtocffoemimghhaaGreatDoor
open Go.RowKit Go.Shelf
attribute [local go_sem ↓] eql_nat neq_nat eql_int5 neq_int5

theorem digs_eight {x : Nat} (h : x < 2 ^ 256) : (digs x).length ≤ 1000 := Nat.le_trans (digs_len.2 (show x < 2 ^ (32 * 8) from h)) (by decide)
set_option maxHeartbeats 1000000 in
set_option maxRecDepth 100000 in
theorem rex_zero (g : Bool) (x : Nat) (hx : x < 2 ^ 256) (w : World)
    (k1 : ∀ W, Calls Tryz.prog 69 #[I5 g x] W fun e w' => e = .returned (.bool true) ∧ Below W.heap.size W w')
    (k2 : ∀ s' W, DR W s' x → Calls Tryz.prog 108 #[s'] W fun e w' => e = .returned (.int .i64 0) ∧ Below W.heap.size W w') :
    Calls Tryz.prog 68 #[I5 g x] w fun e w' => e = .returned (.bool true) ∧ Below w.heap.size w w' := by
  unfold I5 at *
  have HX := Lib.hid hx; have K1 := Lib.hid k1; have K2 := Lib.hid k2; clear hx k1 k2
  go_enter Tryz.func68, Tryz.ntmps68
  go_wp2_with fail
  refine (rof x HX.out _).mono ?_
  rintro e w1 ⟨s1, rfl, hr, hb⟩
  have hbX : Below w.heap.size w w1 := btr (by repeat (first | (with_reducible exact Below.refl _ _) | (with_reducible refine bal ?_ _) | (with_reducible refine Below.drew ?_) | (with_reducible refine bdn ?_ _))) hb
  clear hbX
  have DX1 : DR w1 s1 x := hr
  clear hr
  have BW1 : Below w.heap.size w w1 := btr (by repeat (first | (with_reducible exact Below.refl _ _) | (with_reducible refine bal ?_ _) | (with_reducible refine Below.drew ?_) | (with_reducible refine bdn ?_ _))) hb
  have X1 : Row5 w1 w.heap.size (.bool g) (.int .u64 (lb 0 x)) (.int .u64 (lb 1 x)) (.int .u64 (lb 2 x)) (.int .u64 (lb 3 x)) := Row5.keep hb (by repeat (first | (with_reducible exact Row5.new _ _ _ _ _ _) | ((with_reducible refine Row5.new' _ ?_ _ _ _ _ _); (simp; done)) | (with_reducible refine Row5.alloc ?_ _) | (with_reducible refine Row5.drew ?_)))
  clear hb
  obtain ⟨Xc0, Xc1, Xc2, Xc3, Xc4⟩ := X1.parts
  obtain ⟨Xf0, Xf1, Xf2, Xf3, Xf4⟩ := X1.free
  go_wp2_with fail
  refine (K1.out _).mono ?_
  rintro e w2 ⟨rfl, hb⟩
  have hbX : Below w1.heap.size w1 w2 := btr (by repeat (first | (with_reducible exact Below.refl _ _) | (with_reducible refine bal ?_ _) | (with_reducible refine Below.drew ?_) | (with_reducible refine bdn ?_ _))) hb
  have DX2 : DR w2 s1 x := DR.keep hbX DX1
  clear DX1
  clear hbX
  have BW2 : Below w.heap.size w w2 := btr (by repeat (first | (with_reducible exact BW1) | (with_reducible refine bal ?_ _) | (with_reducible refine Below.drew ?_) | (with_reducible refine bdn ?_ _))) hb
  have X2 : Row5 w2 w.heap.size (.bool g) (.int .u64 (lb 0 x)) (.int .u64 (lb 1 x)) (.int .u64 (lb 2 x)) (.int .u64 (lb 3 x)) := Row5.keep hb (by repeat (first | (with_reducible exact X1) | (with_reducible refine Row5.alloc ?_ _) | (with_reducible refine Row5.drew ?_)))
  clear X1
  clear BW1
  clear hb
  go_wp2_with fail
  refine (K2.out _ _ (DR.keep (by repeat (first | (with_reducible exact Below.refl _ _) | (with_reducible refine bal ?_ _) | (with_reducible refine Below.drew ?_) | (with_reducible refine bdn ?_ _))) DX2)).mono ?_
  rintro e w3 ⟨rfl, hb⟩
  have hbX : Below w2.heap.size w2 w3 := btr (by repeat (first | (with_reducible exact Below.refl _ _) | (with_reducible refine bal ?_ _) | (with_reducible refine Below.drew ?_) | (with_reducible refine bdn ?_ _))) hb
  have DX3 : DR w3 s1 x := DR.keep hbX DX2
  clear DX2
  clear hbX
  have BW3 : Below w.heap.size w w3 := btr (by repeat (first | (with_reducible exact BW2) | (with_reducible refine bal ?_ _) | (with_reducible refine Below.drew ?_) | (with_reducible refine bdn ?_ _))) hb
  have X3 : Row5 w3 w.heap.size (.bool g) (.int .u64 (lb 0 x)) (.int .u64 (lb 1 x)) (.int .u64 (lb 2 x)) (.int .u64 (lb 3 x)) := Row5.keep hb (by repeat (first | (with_reducible exact X2) | (with_reducible refine Row5.alloc ?_ _) | (with_reducible refine Row5.drew ?_)))
  clear X2
  clear BW2
  clear hb
  go_wp2
  go_ret
  exact ⟨rfl, BW3⟩
set_option maxHeartbeats 1000000 in
set_option maxRecDepth 100000 in
theorem rex_some (g : Bool) (x : Nat) (hx : x < 2 ^ 256) (L t : Nat) (hL : ((L : Int) == 0) = false) (hL2 : L ≤ 2000) (ht : t ≤ 2000) (hq : (L : Int) - t ≤ 53) (w : World)
    (k1 : ∀ W, Calls Tryz.prog 69 #[I5 g x] W fun e w' => e = .returned (.bool true) ∧ Below W.heap.size W w')
    (k2 : ∀ s' W, DR W s' x → Calls Tryz.prog 108 #[s'] W fun e w' => e = .returned (.int .i64 (L : Int)) ∧ Below W.heap.size W w')
    (k3 : ∀ s' W, DR W s' x → Calls Tryz.prog 109 #[s'] W fun e w' => e = .returned (.int .i64 (t : Int)) ∧ Below W.heap.size W w') :
    Calls Tryz.prog 68 #[I5 g x] w fun e w' => e = .returned (.bool true) ∧ Below w.heap.size w w' := by
  unfold I5 at *
  have HX := Lib.hid hx; have K1 := Lib.hid k1; have K2 := Lib.hid k2; have K3 := Lib.hid k3; clear hx k1 k2 k3
  go_enter Tryz.func68, Tryz.ntmps68
  go_wp2_with fail
  refine (rof x HX.out _).mono ?_
  rintro e w1 ⟨s1, rfl, hr, hb⟩
  have hbX : Below w.heap.size w w1 := btr (by repeat (first | (with_reducible exact Below.refl _ _) | (with_reducible refine bal ?_ _) | (with_reducible refine Below.drew ?_) | (with_reducible refine bdn ?_ _))) hb
  clear hbX
  have DX1 : DR w1 s1 x := hr
  clear hr
  have BW1 : Below w.heap.size w w1 := btr (by repeat (first | (with_reducible exact Below.refl _ _) | (with_reducible refine bal ?_ _) | (with_reducible refine Below.drew ?_) | (with_reducible refine bdn ?_ _))) hb
  have X1 : Row5 w1 w.heap.size (.bool g) (.int .u64 (lb 0 x)) (.int .u64 (lb 1 x)) (.int .u64 (lb 2 x)) (.int .u64 (lb 3 x)) := Row5.keep hb (by repeat (first | (with_reducible exact Row5.new _ _ _ _ _ _) | ((with_reducible refine Row5.new' _ ?_ _ _ _ _ _); (simp; done)) | (with_reducible refine Row5.alloc ?_ _) | (with_reducible refine Row5.drew ?_)))
  clear hb
  obtain ⟨Xc0, Xc1, Xc2, Xc3, Xc4⟩ := X1.parts
  obtain ⟨Xf0, Xf1, Xf2, Xf3, Xf4⟩ := X1.free
  go_wp2_with fail
  refine (K1.out _).mono ?_
  rintro e w2 ⟨rfl, hb⟩
  have hbX : Below w1.heap.size w1 w2 := btr (by repeat (first | (with_reducible exact Below.refl _ _) | (with_reducible refine bal ?_ _) | (with_reducible refine Below.drew ?_) | (with_reducible refine bdn ?_ _))) hb
  have DX2 : DR w2 s1 x := DR.keep hbX DX1
  clear DX1
  clear hbX
  have BW2 : Below w.heap.size w w2 := btr (by repeat (first | (with_reducible exact BW1) | (with_reducible refine bal ?_ _) | (with_reducible refine Below.drew ?_) | (with_reducible refine bdn ?_ _))) hb
  have X2 : Row5 w2 w.heap.size (.bool g) (.int .u64 (lb 0 x)) (.int .u64 (lb 1 x)) (.int .u64 (lb 2 x)) (.int .u64 (lb 3 x)) := Row5.keep hb (by repeat (first | (with_reducible exact X1) | (with_reducible refine Row5.alloc ?_ _) | (with_reducible refine Row5.drew ?_)))
  clear X1
  clear BW1
  clear hb
  go_wp2_with fail
  refine (K2.out _ _ (DR.keep (by repeat (first | (with_reducible exact Below.refl _ _) | (with_reducible refine bal ?_ _) | (with_reducible refine Below.drew ?_) | (with_reducible refine bdn ?_ _))) DX2)).mono ?_
  rintro e w3 ⟨rfl, hb⟩
  have hbX : Below w2.heap.size w2 w3 := btr (by repeat (first | (with_reducible exact Below.refl _ _) | (with_reducible refine bal ?_ _) | (with_reducible refine Below.drew ?_) | (with_reducible refine bdn ?_ _))) hb
  have DX3 : DR w3 s1 x := DR.keep hbX DX2
  clear DX2
  clear hbX
  have BW3 : Below w.heap.size w w3 := btr (by repeat (first | (with_reducible exact BW2) | (with_reducible refine bal ?_ _) | (with_reducible refine Below.drew ?_) | (with_reducible refine bdn ?_ _))) hb
  have X3 : Row5 w3 w.heap.size (.bool g) (.int .u64 (lb 0 x)) (.int .u64 (lb 1 x)) (.int .u64 (lb 2 x)) (.int .u64 (lb 3 x)) := Row5.keep hb (by repeat (first | (with_reducible exact X2) | (with_reducible refine Row5.alloc ?_ _) | (with_reducible refine Row5.drew ?_)))
  clear X2
  clear BW2
  clear hb
  go_wp2_with fail
  refine (K2.out _ _ (DR.keep (by repeat (first | (with_reducible exact Below.refl _ _) | (with_reducible refine bal ?_ _) | (with_reducible refine Below.drew ?_) | (with_reducible refine bdn ?_ _))) DX3)).mono ?_
  rintro e w4 ⟨rfl, hb⟩
  have hbX : Below w3.heap.size w3 w4 := btr (by repeat (first | (with_reducible exact Below.refl _ _) | (with_reducible refine bal ?_ _) | (with_reducible refine Below.drew ?_) | (with_reducible refine bdn ?_ _))) hb
  have DX4 : DR w4 s1 x := DR.keep hbX DX3
  clear DX3
  clear hbX
  have BW4 : Below w.heap.size w w4 := btr (by repeat (first | (with_reducible exact BW3) | (with_reducible refine bal ?_ _) | (with_reducible refine Below.drew ?_) | (with_reducible refine bdn ?_ _))) hb
  have X4 : Row5 w4 w.heap.size (.bool g) (.int .u64 (lb 0 x)) (.int .u64 (lb 1 x)) (.int .u64 (lb 2 x)) (.int .u64 (lb 3 x)) := Row5.keep hb (by repeat (first | (with_reducible exact X3) | (with_reducible refine Row5.alloc ?_ _) | (with_reducible refine Row5.drew ?_)))
  clear X3
  clear BW3
  clear hb
  go_wp2_with fail
  refine (K3.out _ _ (DR.keep (by repeat (first | (with_reducible exact Below.refl _ _) | (with_reducible refine bal ?_ _) | (with_reducible refine Below.drew ?_) | (with_reducible refine bdn ?_ _))) DX4)).mono ?_
  rintro e w5 ⟨rfl, hb⟩
  have hbX : Below w4.heap.size w4 w5 := btr (by repeat (first | (with_reducible exact Below.refl _ _) | (with_reducible refine bal ?_ _) | (with_reducible refine Below.drew ?_) | (with_reducible refine bdn ?_ _))) hb
  have DX5 : DR w5 s1 x := DR.keep hbX DX4
  clear DX4
  clear hbX
  have BW5 : Below w.heap.size w w5 := btr (by repeat (first | (with_reducible exact BW4) | (with_reducible refine bal ?_ _) | (with_reducible refine Below.drew ?_) | (with_reducible refine bdn ?_ _))) hb
  have X5 : Row5 w5 w.heap.size (.bool g) (.int .u64 (lb 0 x)) (.int .u64 (lb 1 x)) (.int .u64 (lb 2 x)) (.int .u64 (lb 3 x)) := Row5.keep hb (by repeat (first | (with_reducible exact X4) | (with_reducible refine Row5.alloc ?_ _) | (with_reducible refine Row5.drew ?_)))
  clear X4
  clear BW4
  clear hb
  go_wp2
  go_ret
  exact ⟨rfl, BW5⟩
set_option maxHeartbeats 1000000 in
set_option maxRecDepth 100000 in
theorem rex_no (g : Bool) (x : Nat) (hx : x < 2 ^ 256) (L t : Nat) (hL : ((L : Int) == 0) = false) (hL2 : L ≤ 2000) (ht : t ≤ 2000) (hq : 53 < (L : Int) - t) (w : World)
    (k1 : ∀ W, Calls Tryz.prog 69 #[I5 g x] W fun e w' => e = .returned (.bool true) ∧ Below W.heap.size W w')
    (k2 : ∀ s' W, DR W s' x → Calls Tryz.prog 108 #[s'] W fun e w' => e = .returned (.int .i64 (L : Int)) ∧ Below W.heap.size W w')
    (k3 : ∀ s' W, DR W s' x → Calls Tryz.prog 109 #[s'] W fun e w' => e = .returned (.int .i64 (t : Int)) ∧ Below W.heap.size W w') :
    Calls Tryz.prog 68 #[I5 g x] w fun e w' => e = .returned (.bool false) ∧ Below w.heap.size w w' := by
  unfold I5 at *
  have HX := Lib.hid hx; have K1 := Lib.hid k1; have K2 := Lib.hid k2; have K3 := Lib.hid k3; clear hx k1 k2 k3
  have hq2 : decide ((L : Int) - t ≤ 53) = false := decide_eq_false (by omega)
  go_enter Tryz.func68, Tryz.ntmps68
  go_wp2_with fail
  refine (rof x HX.out _).mono ?_
  rintro e w1 ⟨s1, rfl, hr, hb⟩
  have hbX : Below w.heap.size w w1 := btr (by repeat (first | (with_reducible exact Below.refl _ _) | (with_reducible refine bal ?_ _) | (with_reducible refine Below.drew ?_) | (with_reducible refine bdn ?_ _))) hb
  clear hbX
  have DX1 : DR w1 s1 x := hr
  clear hr
  have BW1 : Below w.heap.size w w1 := btr (by repeat (first | (with_reducible exact Below.refl _ _) | (with_reducible refine bal ?_ _) | (with_reducible refine Below.drew ?_) | (with_reducible refine bdn ?_ _))) hb
  have X1 : Row5 w1 w.heap.size (.bool g) (.int .u64 (lb 0 x)) (.int .u64 (lb 1 x)) (.int .u64 (lb 2 x)) (.int .u64 (lb 3 x)) := Row5.keep hb (by repeat (first | (with_reducible exact Row5.new _ _ _ _ _ _) | ((with_reducible refine Row5.new' _ ?_ _ _ _ _ _); (simp; done)) | (with_reducible refine Row5.alloc ?_ _) | (with_reducible refine Row5.drew ?_)))
  clear hb
  obtain ⟨Xc0, Xc1, Xc2, Xc3, Xc4⟩ := X1.parts
  obtain ⟨Xf0, Xf1, Xf2, Xf3, Xf4⟩ := X1.free
  go_wp2_with fail
  refine (K1.out _).mono ?_
  rintro e w2 ⟨rfl, hb⟩
  have hbX : Below w1.heap.size w1 w2 := btr (by repeat (first | (with_reducible exact Below.refl _ _) | (with_reducible refine bal ?_ _) | (with_reducible refine Below.drew ?_) | (with_reducible refine bdn ?_ _))) hb
  have DX2 : DR w2 s1 x := DR.keep hbX DX1
  clear DX1
  clear hbX
  have BW2 : Below w.heap.size w w2 := btr (by repeat (first | (with_reducible exact BW1) | (with_reducible refine bal ?_ _) | (with_reducible refine Below.drew ?_) | (with_reducible refine bdn ?_ _))) hb
  have X2 : Row5 w2 w.heap.size (.bool g) (.int .u64 (lb 0 x)) (.int .u64 (lb 1 x)) (.int .u64 (lb 2 x)) (.int .u64 (lb 3 x)) := Row5.keep hb (by repeat (first | (with_reducible exact X1) | (with_reducible refine Row5.alloc ?_ _) | (with_reducible refine Row5.drew ?_)))
  clear X1
  clear BW1
  clear hb
  go_wp2_with fail
  refine (K2.out _ _ (DR.keep (by repeat (first | (with_reducible exact Below.refl _ _) | (with_reducible refine bal ?_ _) | (with_reducible refine Below.drew ?_) | (with_reducible refine bdn ?_ _))) DX2)).mono ?_
  rintro e w3 ⟨rfl, hb⟩
  have hbX : Below w2.heap.size w2 w3 := btr (by repeat (first | (with_reducible exact Below.refl _ _) | (with_reducible refine bal ?_ _) | (with_reducible refine Below.drew ?_) | (with_reducible refine bdn ?_ _))) hb
  have DX3 : DR w3 s1 x := DR.keep hbX DX2
  clear DX2
  clear hbX
  have BW3 : Below w.heap.size w w3 := btr (by repeat (first | (with_reducible exact BW2) | (with_reducible refine bal ?_ _) | (with_reducible refine Below.drew ?_) | (with_reducible refine bdn ?_ _))) hb
  have X3 : Row5 w3 w.heap.size (.bool g) (.int .u64 (lb 0 x)) (.int .u64 (lb 1 x)) (.int .u64 (lb 2 x)) (.int .u64 (lb 3 x)) := Row5.keep hb (by repeat (first | (with_reducible exact X2) | (with_reducible refine Row5.alloc ?_ _) | (with_reducible refine Row5.drew ?_)))
  clear X2
  clear BW2
  clear hb
  go_wp2_with fail
  refine (K2.out _ _ (DR.keep (by repeat (first | (with_reducible exact Below.refl _ _) | (with_reducible refine bal ?_ _) | (with_reducible refine Below.drew ?_) | (with_reducible refine bdn ?_ _))) DX3)).mono ?_
  rintro e w4 ⟨rfl, hb⟩
  have hbX : Below w3.heap.size w3 w4 := btr (by repeat (first | (with_reducible exact Below.refl _ _) | (with_reducible refine bal ?_ _) | (with_reducible refine Below.drew ?_) | (with_reducible refine bdn ?_ _))) hb
  have DX4 : DR w4 s1 x := DR.keep hbX DX3
  clear DX3
  clear hbX
  have BW4 : Below w.heap.size w w4 := btr (by repeat (first | (with_reducible exact BW3) | (with_reducible refine bal ?_ _) | (with_reducible refine Below.drew ?_) | (with_reducible refine bdn ?_ _))) hb
  have X4 : Row5 w4 w.heap.size (.bool g) (.int .u64 (lb 0 x)) (.int .u64 (lb 1 x)) (.int .u64 (lb 2 x)) (.int .u64 (lb 3 x)) := Row5.keep hb (by repeat (first | (with_reducible exact X3) | (with_reducible refine Row5.alloc ?_ _) | (with_reducible refine Row5.drew ?_)))
  clear X3
  clear BW3
  clear hb
  go_wp2_with fail
  refine (K3.out _ _ (DR.keep (by repeat (first | (with_reducible exact Below.refl _ _) | (with_reducible refine bal ?_ _) | (with_reducible refine Below.drew ?_) | (with_reducible refine bdn ?_ _))) DX4)).mono ?_
  rintro e w5 ⟨rfl, hb⟩
  have hbX : Below w4.heap.size w4 w5 := btr (by repeat (first | (with_reducible exact Below.refl _ _) | (with_reducible refine bal ?_ _) | (with_reducible refine Below.drew ?_) | (with_reducible refine bdn ?_ _))) hb
  have DX5 : DR w5 s1 x := DR.keep hbX DX4
  clear DX4
  clear hbX
  have BW5 : Below w.heap.size w w5 := btr (by repeat (first | (with_reducible exact BW4) | (with_reducible refine bal ?_ _) | (with_reducible refine Below.drew ?_) | (with_reducible refine bdn ?_ _))) hb
  have X5 : Row5 w5 w.heap.size (.bool g) (.int .u64 (lb 0 x)) (.int .u64 (lb 1 x)) (.int .u64 (lb 2 x)) (.int .u64 (lb 3 x)) := Row5.keep hb (by repeat (first | (with_reducible exact X4) | (with_reducible refine Row5.alloc ?_ _) | (with_reducible refine Row5.drew ?_)))
  clear X4
  clear BW4
  clear hb
  go_wp2
  go_ret
  exact ⟨rfl, BW5⟩
end Go.Proofs.YtocffoemimghhaaGreatDoor
end
section
namespace Go.Proofs.YtocffoemimghhaaGreatDoor
open Go.RowKit Go.Shelf
open Go.Sort (grow)
attribute [local go_sem ↓] eql_nat neq_nat eql_int5 neq_int5

end Go.Proofs.YtocffoemimghhaaGreatDoor
end
section
namespace Go.Proofs.YtocffoemimghhaaGreatDoor
open Go.RowKit Go.Shelf

theorem under_same {f : FuncId} {l : Array Value} {w : World} {r : Ending} (h : Calls Tryz.prog f l w fun e w' => e = r ∧ w' = w) : Calls Tryz.prog f l w fun e w' => e = r ∧ Below w.heap.size w w' :=
  h.mono (fun _ _ ⟨a, b⟩ => ⟨a, by rw [b]; exact Below.refl _ _⟩)
theorem rmay_ok (g : Bool) (x : Nat) (hx : x < 2 ^ 256) (h : ¬ (g = true ∧ x = 0)) (w : World) :
    Calls Tryz.prog 69 #[I5 g x] w fun e w' => e = .returned (.bool true) ∧ Below w.heap.size w w' := by
  cases g with
  | false => exact rmay_pos _ _ _ _ w
  | true =>
    have hm := rmay_neg (lb 0 x) (lb 1 x) (lb 2 x) (lb 3 x) w
    rw [show eq4 (lb 0 x) (lb 1 x) (lb 2 x) (lb 3 x) 0 0 0 0 = false from (eq4_of x 0 hx (by decide)).trans (decide_eq_false (fun h0 => h ⟨rfl, h0⟩))] at hm
    exact hm
theorem rexq (g : Bool) (x : Nat) (hx : x < 2 ^ 256) (h : ¬ (g = true ∧ x = 0)) (w : World) :
    Calls Tryz.prog 68 #[I5 g x] w fun e w' => e = .returned (.bool (exq x)) ∧ Below w.heap.size w w' := by
  have km := fun W => rmay_ok g x hx h W
  have lx := digs_eight hx
  by_cases h0 : x = 0
  · subst h0
    rw [show exq 0 = true from by decide]
    exact rex_zero g 0 hx w km (fun s' W hD => under_same (rlen hD lx))
  · obtain ⟨⟨m, hm⟩, ht⟩ := tz_spec h0 hx
    have hL := blen_le hx
    have hbs := blen_spec h0
    have hz : (((blen x : Nat) : Int) == 0) = false := by rw [beq_eq_false_iff_ne]; omega
    cases hq : exq x with
    | true =>
      unfold exq at hq
      have hq := of_decide_eq_true hq
      exact rex_some g x hx (blen x) (tz x) hz (by omega) (by omega) hq w km (fun s' W hD => under_same (rlen hD lx)) (fun s' W hD => under_same (rtrail hD lx hm (by omega)))
    | false =>
      unfold exq at hq
      have hq := of_decide_eq_false hq
      exact rex_no g x hx (blen x) (tz x) hz (by omega) (by omega) (by omega) w km (fun s' W hD => under_same (rlen hD lx)) (fun s' W hD => under_same (rtrail hD lx hm (by omega)))
/-- The target of Near. -/
def nearT (z : Int) (up ex : Bool) : Int := if ex then (if up then eup z else -(eup (-z))) else (if up then rup z else -(rup (-z)))
end Go.Proofs.YtocffoemimghhaaGreatDoor
end
