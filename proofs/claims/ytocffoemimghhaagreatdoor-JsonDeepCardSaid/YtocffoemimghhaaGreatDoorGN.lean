/-
  RefText WholeI WholeJ RefNum NumWalk NumAny RefNear ExWalk ExAny, one behind the other: a claim holds at most 60 files.
-/
import Derived.Test.YtocffoemimghhaaGreatDoorRefLess
import Derived.Test.YtocffoemimghhaaGreatDoorGC
import Derived.Test.YtocffoemimghhaaGreatDoorGD
import Derived.Test.YtocffoemimghhaaGreatDoorGE
import Derived.Lib.ItoaWalk
import Derived.Test.YtocffoemimghhaaGreatDoorRefInt
section
namespace Go.Proofs.YtocffoemimghhaaGreatDoor
open Go.RowKit Go.Shelf

theorem digs_le {x y k : Nat} (h : y ≤ x) (hx : (digs x).length ≤ k) : (digs y).length ≤ k := digs_len.2 (Nat.lt_of_le_of_lt h (digs_len.1 hx))
theorem digs_some {x : Nat} (h : x ≠ 0) : 0 < (digs x).length := by rw [digs_pos h]; simp
/-- One byte as a text. -/
theorem byte_str (z : Nat) (Z : Int) (e : Z = (z : Int)) (W : World) : (convert 33 9 (.slice (some ⟨W.heap.size, 0, none⟩) 1 1)).run Tryz.prog (W.alloc (.cells #[.int .u8 Z] 5)) = .ok (.string ⟨#[UInt8.ofNat z]⟩) (W.alloc (.cells #[.int .u8 Z] 5)) := by
  subst e
  have h := run_convert_bytes_arg (P := Tryz.prog) (W.alloc (.cells #[.int .u8 (z : Int)] 5)) 33 5 (by kernel_rfl) (by kernel_rfl) W.heap.size 0 1 1 [(z : Int)] rfl (fun i hi => by
    obtain rfl : i = 0 := by omega
    exact cell_of_row _ W.heap.size 0 _ _ _ (heap_alloc_new W _)) 9 (by kernel_rfl)
  rw [h]
  rfl
/-- What stands at the head of Print's loop. -/
def PrAt (x y : Nat) (p : ByteArray) : Prop := if y = 0 then p.data.toList = Lib.decDigits x else Lib.decDigits x = Lib.decDigits y ++ p.data.toList
theorem PrAt.start {x : Nat} (h : x ≠ 0) : PrAt x x ⟨#[]⟩ := by unfold PrAt; rw [if_neg h]; simp
theorem PrAt.size {x y : Nat} {p : ByteArray} (h : PrAt x y p) (h0 : y ≠ 0) : p.size < (Lib.decDigits x).length := by
  unfold PrAt at h
  rw [if_neg h0] at h
  rw [h, List.length_append]
  have := dec_pos y
  have e : p.data.toList.length = p.size := by simp
  omega
theorem PrAt.next {x y : Nat} {p : ByteArray} (h : PrAt x y p) (h0 : y ≠ 0) : PrAt x (y / 10) (⟨#[UInt8.ofNat (48 + y % 10)]⟩ ++ p) := by
  unfold PrAt at h ⊢
  rw [if_neg h0] at h
  have e : (⟨#[UInt8.ofNat (48 + y % 10)]⟩ ++ p : ByteArray).data.toList = UInt8.ofNat (48 + y % 10) :: p.data.toList := by simp
  rw [e]
  by_cases h10 : y < 10
  · rw [if_pos (by omega)]; exact (dec_last y h10 _ _ h).symm
  · rw [if_neg (by omega)]; exact dec_cons y (by omega) _ _ h
theorem PrAt.stop {x : Nat} {p : ByteArray} (h : PrAt x 0 p) : p = dstr x := by
  unfold PrAt at h
  rw [if_pos rfl] at h
  exact dstr_of h
theorem dec_of_digs {x k : Nat} (hk : 1 ≤ k) (h : (digs x).length ≤ k) : (Lib.decDigits x).length ≤ 32 * k :=
  dec_len (by omega) (Nat.lt_of_lt_of_le (digs_len.1 h) (Nat.pow_le_pow_left (by decide) (32 * k)))
theorem dec_short {x : Nat} (lx : (digs x).length ≤ 1000) : (Lib.decDigits x).length ≤ 32000 := dec_of_digs (k := 1000) (by decide) lx
set_option maxHeartbeats 1000000 in
set_option maxRecDepth 100000 in
theorem rprint_core (A0 : Option Addr) (c0 n0 x : Nat) (hn : n0 = (digs x).length) (h0 : x ≠ 0) (lx : (digs x).length ≤ 1000) (w : World) (h : DR w (.slice A0 n0 c0) x) :
    Calls Tryz.prog 71 #[.slice A0 n0 c0] w fun e w' => e = .returned (.string (dstr x)) ∧ Below w.heap.size w w' := by
  obtain ⟨L, hL⟩ : ∃ L, L = (Lib.decDigits x).length := ⟨_, rfl⟩
  have hLs : L ≤ 32000 := by rw [hL]; exact dec_short lx
  obtain ⟨s0, hd0, ht⟩ := trim_keep h
  obtain ⟨A1, c1, rfl, _⟩ := hd0.form
  have hnz : (((digs x).length : Int) == 0) = false := by have := digs_some h0; rw [beq_eq_false_iff_ne]; omega
  obtain ⟨n1, hn1⟩ : ∃ n1, n1 = (digs x).length := ⟨_, rfl⟩
  rw [← hn1] at ht hd0 hnz
  have HT := Lib.hid ht; have HX := Lib.hid h; have HN := Lib.hid hn; have HL := Lib.hid hL; have H0 := Lib.hid h0; have LX := Lib.hid lx; clear ht h hn hL h0 lx hd0 hn1
  go_enter Tryz.func71, Tryz.ntmps71
  go_wp2_with fail
  (with_reducible refine (HT.out _ (Below.refl _ _)).mono ?_)
  rintro e w1 ⟨rfl, hw⟩
  rw [hw]; clear hw w1 HT
  go_wp2
  go_loopw [0, 3] (fun d v wr => ∃ (y n : Nat) (A : Option Addr) (c : Nat) (p : ByteArray), d = .slice A n c ∧ v = .string p ∧ Hid (n = (digs y).length) ∧ Hid (DR wr (.slice A n c) y) ∧ Hid (y ≤ x) ∧ Hid (PrAt x y p) ∧ Below w.heap.size w wr)
    (fun _ v _ => L + 1 - (match v with | .string t => t.size | _ => 0))
  case atStart => exact ⟨x, n0, A0, c0, ⟨#[]⟩, rfl, rfl, HN.out, HX.out, Nat.le_refl _, PrAt.start H0.out, Below.refl _ _⟩
  case round =>
    obtain ⟨y, n, A, c, p, rfl, rfl, HNY, HDY, HYX, HP, hbw⟩ := hrel
    rename World => wr
    by_cases hy : y = 0
    · have hn0 : n = 0 := by rw [HNY.out, hy, digs_zero]; rfl
      have hp : p = dstr x := by have := HP.out; rw [hy] at this; exact this.stop
      subst hn0 hp
      clear hy HNY HDY HYX HP
      go_wp2
      go_ret
      exact ⟨rfl, hbw⟩
    · have hn0 : 0 < (n : Int) := by have := digs_some hy; have := HNY.out; omega
      have hl : Calls Tryz.prog 111 #[.slice A n c, .int .u32 10] wr fun e w' => ∃ s', e = .returned (.tuple #[s', .int .u32 ((y % 10 : Nat) : Int)]) ∧ DR w' s' (y / 10) ∧ Below wr.heap.size wr w' := rless HDY.out (digs_le HYX.out LX.out) 10 (by decide) (by decide)
      obtain ⟨r, hr⟩ : ∃ r, r = y % 10 := ⟨_, rfl⟩
      rw [← hr] at hl
      have hr10 : r < 10 := by omega
      have HLS := Lib.hid hl
      have HNX : Hid (PrAt x (y / 10) (⟨#[UInt8.ofNat (48 + r)]⟩ ++ p)) := by rw [hr]; exact HP.out.next hy
      have hps := HP.out.size hy
      rw [← HL.out] at hps
      have w1 : IntKind.u8.wrap (r : Int) = (r : Int) := by rw [IntKind.wrap_u8]; omega
      have w2 : IntKind.u8.wrap (48 + (r : Int)) = 48 + (r : Int) := by rw [IntKind.wrap_u8]; omega
      have hcv := byte_str (48 + r) (48 + (r : Int)) (by omega)
      obtain ⟨z, hz⟩ : ∃ z, z = UInt8.ofNat (48 + r) := ⟨_, rfl⟩
      rw [← hz] at hcv HNX
      have hs1 : (⟨#[z]⟩ : ByteArray).size = 1 := rfl
      clear hz
      have hyx : Hid (y / 10 ≤ x) := Nat.le_trans (Nat.div_le_self _ _) HYX.out
      clear hl hr hy HP HYX HDY HNY
      go_wp2_with fail
      (with_reducible refine HLS.out.mono ?_)
      rintro e w2 ⟨s', rfl, hd, hb⟩
      obtain ⟨A2, c2, rfl, _⟩ := hd.form
      have HD2 := Lib.hid hd; have B2 := btr hbw hb
      clear hd hb
      go_wp2
      go_roundw
      case rel => exact ⟨y / 10, _, A2, c2, _, rfl, rfl, rfl, HD2.out.keep (by repeat (first | (with_reducible exact Below.refl _ _) | (with_reducible refine bal ?_ _) | (with_reducible refine Below.drew ?_) | (with_reducible refine bdn ?_ _))), hyx, HNX, by repeat (first | (with_reducible exact B2) | (with_reducible refine bal ?_ _) | (with_reducible refine Below.drew ?_) | (with_reducible refine bdn ?_ _))⟩
      case measure =>
        show L + 1 - (⟨#[z]⟩ ++ p : ByteArray).size < L + 1 - p.size
        rw [ByteArray.size_append, hs1]; omega
/-- What Print answers. -/
theorem rprint {s : Value} {x : Nat} {w : World} (h : DR w s x) (lx : (digs x).length ≤ 1000) :
    Calls Tryz.prog 71 #[s] w fun e w' => e = .returned (.string (dstr x)) ∧ Below w.heap.size w w' := by
  obtain ⟨A, c, rfl, _⟩ := h.form
  by_cases h0 : x = 0
  · subst h0
    obtain ⟨s0, hd0, ht⟩ := trim_keep h
    obtain ⟨A1, c1, rfl, _⟩ := hd0.form
    have e0 : (digs 0).length = 0 := by rw [digs_zero]; rfl
    rw [e0] at ht ⊢
    rw [show dstr 0 = ⟨#[48]⟩ from by unfold dstr; rw [dec_small (by decide)]; rfl]
    have HT := Lib.hid ht; clear ht h hd0
    go_enter Tryz.func71, Tryz.ntmps71
    go_wp2_with fail
    (with_reducible refine (HT.out _ (Below.refl _ _)).mono ?_)
    rintro e w1 ⟨rfl, hw⟩
    rw [hw]; clear hw w1 HT
    go_wp2
    go_ret
    exact ⟨rfl, Below.refl _ _⟩
  · exact rprint_core A c _ x rfl h0 lx w h
theorem ten_new (W : World) (z : Nat) (hz0 : z ≠ 0) (hz : z < 4294967296) (Z : Int) (e : Z = (z : Int)) : DR (W.alloc (.cells #[.int .u32 Z] 92)) (.slice (some ⟨W.heap.size, 0, none⟩) 1 1) z := by
  subst e
  have ed : digs z = [z] := by rw [digs_pos hz0, Nat.mod_eq_of_lt hz, Nat.div_eq_of_lt hz, digs_zero]
  unfold DR
  rw [ed]
  refine .inr ⟨W.heap.size, 0, 1, rfl, ⟨Nat.le_refl 1, by decide⟩, by simp, fun i hi => ?_⟩
  obtain rfl : i = 0 := by simp at hi; omega
  exact cell_of_row _ W.heap.size 0 _ _ _ (heap_alloc_new W _)
end Go.Proofs.YtocffoemimghhaaGreatDoor
end
section
namespace Go.Proofs.YtocffoemimghhaaGreatDoor
open Go.RowKit Go.Shelf
attribute [local go_sem ↓] eql_nat neq_nat eql_int5 neq_int5

end Go.Proofs.YtocffoemimghhaaGreatDoor
end
section
namespace Go.Proofs.YtocffoemimghhaaGreatDoor
open Go.RowKit Go.Shelf
attribute [local go_sem ↓] eql_nat neq_nat eql_int5 neq_int5

/-- An integer's decimals. -/
def zstr (z : Int) : ByteArray := if z < 0 then ⟨#[45]⟩ ++ dstr z.natAbs else dstr z.natAbs
/-- What a text is read as. -/
def parseZ (s : ByteArray) : Option Int :=
  match parseN ⟨(Lib.trimPrefix s.data.toList [45]).toArray⟩ with
  | some v => if Lib.hasPrefix s.data.toList [45] then (if v = 0 then none else some (-(v : Int))) else some (v : Int)
  | none => none
def ZEnd (o : Option Int) : Value := match o with
  | some z => .tuple #[Iz z, .bool true]
  | none => .tuple #[Z5, .bool false]
end Go.Proofs.YtocffoemimghhaaGreatDoor
end
section
namespace Go.Proofs.YtocffoemimghhaaGreatDoor
open Go.RowKit Go.Shelf
attribute [local go_sem ↓] eql_nat neq_nat eql_int5 neq_int5

end Go.Proofs.YtocffoemimghhaaGreatDoor
end
section
namespace Go.Proofs.YtocffoemimghhaaGreatDoor
open Go.RowKit Go.Shelf
open Go.Sort (grow)
attribute [local go_sem ↓] eql_nat neq_nat eql_int5 neq_int5

end Go.Proofs.YtocffoemimghhaaGreatDoor
end
section
namespace Go.Proofs.YtocffoemimghhaaGreatDoor
open Go.RowKit Go.Shelf

end Go.Proofs.YtocffoemimghhaaGreatDoor
end
section
namespace Go.Proofs.YtocffoemimghhaaGreatDoor
open Go.RowKit Go.Shelf
attribute [local go_sem ↓] eql_nat neq_nat eql_int5 neq_int5

end Go.Proofs.YtocffoemimghhaaGreatDoor
end
section
namespace Go.Proofs.YtocffoemimghhaaGreatDoor
open Go.RowKit Go.Shelf
open Go.Sort (grow)
attribute [local go_sem ↓] eql_nat neq_nat eql_int5 neq_int5

end Go.Proofs.YtocffoemimghhaaGreatDoor
end
section
namespace Go.Proofs.YtocffoemimghhaaGreatDoor
open Go.RowKit Go.Shelf

/-- The target of Near. -/
def nearT (z : Int) (up ex : Bool) : Int := if ex then (if up then eup z else -(eup (-z))) else (if up then rup z else -(rup (-z)))
end Go.Proofs.YtocffoemimghhaaGreatDoor
end
