/-
  CbHead CbHead2 CbRead CbText CbNatOf CbTag CbSimp CbLost, one behind the other: a claim holds at most 60 files.
-/
import Derived.Test.YtfaaagmjmljhiaaGreatDoorGJ
import Derived.Lib.QuietBelow
import Derived.BigQuiet
import Derived.BigRegion
import Derived.Test.YtfaaagmjmljhiaaGreatDoorGU
section
namespace Go.Proofs.YtfaaagmjmljhiaaGreatDoor
open Go.RowKit Go.Shelf
open Go.Sort (grow)
set_option linter.unusedVariables false

/-- Are there such heads? -/
def hmay (m a : Nat) : Bool := if a = 31 then decide (2 ≤ m ∧ m ≠ 6) else decide (a ≤ 27)
theorem may_open (m : Nat) (n : Int) (w : World) : Calls Tryz.prog 67 #[HdV m 31 n] w fun e w' => e = .returned (.bool (decide (2 ≤ m ∧ m ≠ 6))) ∧ Below w.heap.size w w' := by
  have k1 := fun W => isopen_any (m : Int) 31 n W
  have H0 := Hb.new w m 31 n
  by_cases h2 : 2 ≤ m
  · by_cases h6 : m = 6
    · have g1 : (2 : Int) ≤ m := by omega
      have g2 : ((m : Int) != 6) = false := by rw [bne_eq_false_iff_eq]; omega
      rw [decide_eq_false (fun h : 2 ≤ m ∧ m ≠ 6 => h.2 h6)]
      clear h6
      go_enter Tryz.func67, Tryz.ntmps67
      go_wp2_with (go_at_call 81; ((with_reducible refine (k1 _).mono ?_); rintro e w1 ⟨rfl, hb⟩; obtain ⟨p0, p1, p2⟩ := (Hb.keep hb H0).parts))
      go_ret
      exact ⟨rfl, btr (bal (Below.refl _ _) _) hb⟩
    · have g1 : (2 : Int) ≤ m := by omega
      have g2 : ((m : Int) != 6) = true := by rw [bne_iff_ne]; omega
      rw [decide_eq_true (⟨h2, h6⟩ : 2 ≤ m ∧ m ≠ 6)]
      go_enter Tryz.func67, Tryz.ntmps67
      go_wp2_with (go_at_call 81; ((with_reducible refine (k1 _).mono ?_); rintro e w1 ⟨rfl, hb⟩; obtain ⟨p0, p1, p2⟩ := (Hb.keep hb H0).parts))
      go_ret
      exact ⟨rfl, btr (bal (Below.refl _ _) _) hb⟩
  · have g1 : ¬ (2 : Int) ≤ m := by omega
    rw [decide_eq_false (fun h : 2 ≤ m ∧ m ≠ 6 => h2 h.1)]
    go_enter Tryz.func67, Tryz.ntmps67
    go_wp2_with (go_at_call 81; ((with_reducible refine (k1 _).mono ?_); rintro e w1 ⟨rfl, hb⟩; obtain ⟨p0, p1, p2⟩ := (Hb.keep hb H0).parts))
    go_ret
    exact ⟨rfl, btr (bal (Below.refl _ _) _) hb⟩
theorem may_shut (m a : Nat) (n : Int) (ha : a ≠ 31) (w : World) : Calls Tryz.prog 67 #[HdV m a n] w fun e w' => e = .returned (.bool (decide (a ≤ 27))) ∧ Below w.heap.size w w' := by
  have k1 := fun W => isopen_any (m : Int) (a : Int) n W
  have e : ((a : Int) == 31) = false := by rw [beq_eq_false_iff_ne]; omega
  rw [e] at k1
  have H0 := Hb.new w m a n
  go_enter Tryz.func67, Tryz.ntmps67
  go_wp2_with (go_at_call 81; ((with_reducible refine (k1 _).mono ?_); rintro e w1 ⟨rfl, hb⟩; obtain ⟨p0, p1, p2⟩ := (Hb.keep hb H0).parts))
  go_ret
  refine ⟨?_, btr (bal (Below.refl _ _) _) hb⟩
  show Ending.returned (Value.bool (decide ((a : Int) ≤ 27))) = _
  rw [show decide ((a : Int) ≤ 27) = decide (a ≤ 27) from by rw [decide_eq_decide]; omega]
theorem may_any (m a : Nat) (n : Int) (w : World) : Calls Tryz.prog 67 #[HdV m a n] w fun e w' => e = .returned (.bool (hmay m a)) ∧ Below w.heap.size w w' := by
  by_cases h : a = 31
  · subst h
    rw [show hmay m 31 = decide (2 ≤ m ∧ m ≠ 6) from if_pos rfl]
    exact may_open m n w
  · rw [show hmay m a = decide (a ≤ 27) from if_neg h]
    exact may_shut m a n h w
theorem isbreak_any (m a : Nat) (n : Int) (w : World) : Calls Tryz.prog 120 #[HdV m a n] w fun e w' => e = .returned (.bool (decide (a = 31 ∧ m = 7))) ∧ Below w.heap.size w w' := by
  have k1 := fun W => isopen_any (m : Int) (a : Int) n W
  have H0 := Hb.new w m a n
  by_cases h : a = 31
  · have e : ((a : Int) == 31) = true := by rw [beq_iff_eq]; omega
    rw [e] at k1
    have e2 : ((m : Int) == 7) = decide (a = 31 ∧ m = 7) := by
      rw [Bool.eq_iff_iff, beq_iff_eq, decide_eq_true_iff]; omega
    have E2 := Lib.hid e2
    clear e e2 h
    generalize decide (a = 31 ∧ m = 7) = Q at *
    go_enter Tryz.func120, Tryz.ntmps120
    go_wp2_with (go_at_call 81; ((with_reducible refine (k1 _).mono ?_); rintro e w1 ⟨rfl, hb⟩; obtain ⟨p0, p1, p2⟩ := (Hb.keep hb H0).parts))
    go_ret
    exact ⟨by rw [← E2.out]; rfl, btr (bal (Below.refl _ _) _) hb⟩
  · have e : ((a : Int) == 31) = false := by rw [beq_eq_false_iff_ne]; omega
    rw [e] at k1
    rw [decide_eq_false (fun hc : a = 31 ∧ m = 7 => h hc.1)]
    go_enter Tryz.func120, Tryz.ntmps120
    go_wp2_with (go_at_call 81; ((with_reducible refine (k1 _).mono ?_); rintro e w1 ⟨rfl, hb⟩; obtain ⟨p0, p1, p2⟩ := (Hb.keep hb H0).parts))
    go_ret
    exact ⟨rfl, btr (bal (Below.refl _ _) _) hb⟩
/-- The block b is a reader: what is left, how many nodes, how deep, the two marks. -/
def Cr (W : World) (b : Nat) (s : ByteArray) (nd dp : Int) (lg un : Bool) : Prop := W.heap[b]? = some (.cells #[.string s, .int .i64 nd, .int .i64 dp, .bool lg, .bool un] 55 (0, 0))
section
variable {W W' : World} {b : Nat} {s : ByteArray} {nd dp : Int} {lg un : Bool}
theorem Cr.lt (h : Cr W b s nd dp lg un) : b < W.heap.size := by
  unfold Cr at h
  exact (Array.getElem?_eq_some_iff.1 h).1
theorem Cr.keep (h : Cr W b s nd dp lg un) (hb : Below W.heap.size W W') : Cr W' b s nd dp lg un := (hb.block b h.lt).trans h
theorem Cr.alloc (h : Cr W b s nd dp lg un) (o : Obj) : Cr (W.alloc o) b s nd dp lg un := (Below.heap_alloc W o b h.lt).trans h
theorem Cr.set (h : Cr W b s nd dp lg un) {c : Nat} (hne : b ≠ c) (i : Nat) (u : Value) : Cr (W.setCell ⟨c, i, none⟩ u) b s nd dp lg un := (Below.heap_setCell W ⟨c, i, none⟩ u b hne).trans h
theorem Cr.parts (h : Cr W b s nd dp lg un) :
    W.cell? ⟨b, 0, none⟩ = some (.string s) ∧ W.cell? ⟨b, 1, none⟩ = some (.int .i64 nd) ∧ W.cell? ⟨b, 2, none⟩ = some (.int .i64 dp) ∧ W.cell? ⟨b, 3, none⟩ = some (.bool lg) ∧ W.cell? ⟨b, 4, none⟩ = some (.bool un) :=
  ⟨cell_of_row W b 0 _ _ _ h, cell_of_row W b 1 _ _ _ h, cell_of_row W b 2 _ _ _ h, cell_of_row W b 3 _ _ _ h, cell_of_row W b 4 _ _ _ h⟩
theorem Cr.free (h : Cr W b s nd dp lg un) (i : Nat) : W.frozen? ⟨b, i, none⟩ = false := frozen_of_row W b i _ _ h
theorem Cr.rest (h : Cr W b s nd dp lg un) (t : ByteArray) : Cr (W.setCell ⟨b, 0, none⟩ (.string t)) b t nd dp lg un := by
  have h1 := heap_setCell_same W b 0 _ _ (.string t) h
  simpa [Cr] using h1
theorem Cr.nodes (h : Cr W b s nd dp lg un) (t : Int) : Cr (W.setCell ⟨b, 1, none⟩ (.int .i64 t)) b s t dp lg un := by
  have h1 := heap_setCell_same W b 1 _ _ (.int .i64 t) h
  simpa [Cr] using h1
theorem Cr.deep (h : Cr W b s nd dp lg un) (t : Int) : Cr (W.setCell ⟨b, 2, none⟩ (.int .i64 t)) b s nd t lg un := by
  have h1 := heap_setCell_same W b 2 _ _ (.int .i64 t) h
  simpa [Cr] using h1
theorem Cr.long (h : Cr W b s nd dp lg un) (t : Bool) : Cr (W.setCell ⟨b, 3, none⟩ (.bool t)) b s nd dp t un := by
  have h1 := heap_setCell_same W b 3 _ _ (.bool t) h
  simpa [Cr] using h1
theorem Cr.unrep (h : Cr W b s nd dp lg un) (t : Bool) : Cr (W.setCell ⟨b, 4, none⟩ (.bool t)) b s nd dp lg t := by
  have h1 := heap_setCell_same W b 4 _ _ (.bool t) h
  simpa [Cr] using h1
end
/-- A head, read off. -/
def rhd : List UInt8 → Option (Nat × Nat × Nat × List UInt8)
  | [] => none
  | c :: t => if hmay (c.toNat / 32) (c.toNat % 32) = true ∧ hsz (c.toNat % 32) ≤ t.length then
      some (c.toNat / 32, c.toNat % 32, (if c.toNat % 32 < 24 then c.toNat % 32 else nb (t.take (hsz (c.toNat % 32)))), t.drop (hsz (c.toNat % 32))) else none
theorem Hb.new' (W : World) {c : Nat} (hc : W.heap.size = c) (m a n : Int) : Hb (W.alloc (.cells #[.int .i64 m, .int .i64 a, .int .u64 n] 69)) c m a n := by subst hc; exact Hb.new W m a n
theorem Hb.set3 {W : World} {c : Nat} {m a n : Int} (h : Hb W c m a n) (m' a' n' : Int) : Hb (((W.setCell ⟨c, 0, none⟩ (.int .i64 m')).setCell ⟨c, 1, none⟩ (.int .i64 a')).setCell ⟨c, 2, none⟩ (.int .u64 n')) c m' a' n' := by
  unfold Hb at *
  have h0 := heap_setCell_same W c 0 _ _ (.int .i64 m') h
  have h1 := heap_setCell_same _ c 1 _ _ (.int .i64 a') h0
  have h2 := heap_setCell_same _ c 2 _ _ (.int .u64 n') h1
  simpa using h2
theorem rhead_nil (S : ByteArray) (e1 : S.toList.isEmpty = true) (e2 : S.toList = []) (b : Nat) (nd dp : Int) (lg un : Bool) (w : World) (h : Cr w b S nd dp lg un) :
    Calls Tryz.prog 39 #[.pointer (some ⟨b, 0, none⟩)] w fun e w' => e = .returned (.tuple #[HdV 0 0 0, .bool false]) ∧ Cr w' b S nd dp lg un ∧ But w.heap.size b w w' := by
  have hlt := h.lt
  have p0 := fun o => (h.alloc o).parts.1
  have H := Lib.hid h
  clear h
  go_enter Tryz.func39, Tryz.ntmps39
  go_wp2
  exact bodyPost_ret (v := .tuple #[HdV 0 0 0, .bool false]) (by simp [results, Tryz.results39, go_sem]) rfl ⟨rfl, H.out.alloc _, But.of (bal (Below.refl _ _) _)⟩
set_option maxRecDepth 100000 in
theorem rhead_bad (S : ByteArray) (h0 : 0 < S.size) (e1 : S.toList.isEmpty = false) (e2 : ¬ S.toList = []) (F : Int) (hF : (S[0].toNat : Int) = F) (hF0 : 0 ≤ F) (hF1 : F ≤ 255) (m a : Nat) (hm : F / 32 = (m : Int)) (ha : bits .and .i64 F 31 = (a : Int)) (hmy : hmay m a = false)
    (b : Nat) (nd dp : Int) (lg un : Bool) (w : World) (h : Cr w b S nd dp lg un) :
    Calls Tryz.prog 39 #[.pointer (some ⟨b, 0, none⟩)] w fun e w' => e = .returned (.tuple #[HdV 0 0 0, .bool false]) ∧ Cr w' b S nd dp lg un ∧ But w.heap.size b w w' := by
  have hlt := h.lt
  have k1 := fun W => may_any m a 0 W
  rw [hmy] at k1
  have K1 := Lib.hid k1
  have p0 := fun o => (h.alloc o).parts.1
  have H := Lib.hid h
  clear h k1 hmy
  have hs1 : 1 ≤ S.size := h0
  go_enter Tryz.func39, Tryz.ntmps39
  go_upto_region 5 with (fail)
  go_name_world w1 hw1
  have B1 : Hid (Below w.heap.size w w1) := by rw [← hw1]; exact bal (bal (Below.refl _ _) _) _
  have C1 : Cr w1 b S nd dp lg un := by rw [← hw1]; exact (H.out.alloc _).alloc _
  have Q1 : Hb w1 (w.heap.size + 1) m a 0 := by rw [← hw1]; refine Hb.new' _ ?_ _ _ _; simp
  have Z1 : Hb w1 w.heap.size 0 0 0 := by rw [← hw1]; exact (Hb.new _ _ _ _).alloc _
  clear hw1 p0
  have r0 := cell_regrown C1.parts.1
  have q0 := cell_regrown Q1.parts.1
  have q1 := cell_regrown Q1.parts.2.1
  have q2 := cell_regrown Q1.parts.2.2
  have cq0 := fun (d : Nat) (os : Array Obj) => Calls.regrown_of (w := w1) (d := d) (os := os) (K1.out _)
  refine wp_region_quiet_below (by kernel_rfl) (by kernel_rfl) ?_
  repeat (first | go_big_quiet_step ((first | (with_reducible exact cq0 _ _))) | quiet_step (first | (with_reducible exact cq0 _ _)))
  refine wpQuiet_nil ?_
  intro _ hw'
  obtain ⟨⟨dq, osq⟩, hw''⟩ := hw'
  subst hw''
  have hb := below_regrown w1 dq osq
  have B2 := Lib.hid (btr B1.out hb)
  have C2 := Lib.hid (C1.keep hb)
  have Z2 := Z1.keep hb
  generalize grow (redrawn w1 dq) osq = w2 at *
  clear r0 q0 q1 q2 cq0 hb C1 Q1 Z1
  have zl := Z2.lt
  have zf := Z2.free
  obtain ⟨z0, z1, z2⟩ := Z2.parts
  have ZZ := (Z2.set3 0 0 0).parts
  obtain ⟨y0, y1, y2⟩ := ZZ
  go_wp2
  have hne : b ≠ w.heap.size := by omega
  exact bodyPost_ret (v := .tuple #[HdV 0 0 0, .bool false]) (by simp [results, Tryz.results39, go_sem, y0, y1, y2]) rfl ⟨rfl, ((C2.out.set hne 0 _).set hne 1 _).set hne 2 _, But.of (bsc (bsc (bsc B2.out (p := ⟨w.heap.size, 0, none⟩) (Nat.le_refl _) _) (p := ⟨w.heap.size, 1, none⟩) (Nat.le_refl _) _) (p := ⟨w.heap.size, 2, none⟩) (Nat.le_refl _) _)⟩
set_option maxRecDepth 100000 in
theorem rhead_short (S : ByteArray) (h0 : 0 < S.size) (e1 : S.toList.isEmpty = false) (e2 : ¬ S.toList = []) (F : Int) (hF : (S[0].toNat : Int) = F) (hF0 : 0 ≤ F) (hF1 : F ≤ 255) (m a : Nat) (hm : F / 32 = (m : Int)) (ha : bits .and .i64 F 31 = (a : Int)) (hmy : hmay m a = true) (hs : S.size ≤ hsz a) (ha2 : a < 28 ∨ a = 31)
    (b : Nat) (nd dp : Int) (lg un : Bool) (w : World) (h : Cr w b S nd dp lg un) :
    Calls Tryz.prog 39 #[.pointer (some ⟨b, 0, none⟩)] w fun e w' => e = .returned (.tuple #[HdV 0 0 0, .bool false]) ∧ Cr w' b S nd dp lg un ∧ But w.heap.size b w w' := by
  have hlt := h.lt
  have k1 := fun W => may_any m a 0 W
  rw [hmy] at k1
  have k2 := fun W => hsize_any (m : Int) a 0 ha2 W
  have K1 := Lib.hid k1
  have K2 := Lib.hid k2
  have hs2 : (S.size : Int) ≤ (hsz a : Nat) := by omega
  have hs3 : decide ((S.size : Int) ≤ (hsz a : Nat)) = true := decide_eq_true hs2
  have p0 := fun o => (h.alloc o).parts.1
  have H := Lib.hid h
  clear h k1 k2 hmy hs ha2
  generalize hsz a = sz at *
  have hs1 : 1 ≤ S.size := h0
  go_enter Tryz.func39, Tryz.ntmps39
  go_upto_region 5 with (fail)
  go_name_world w1 hw1
  have B1 : Hid (Below w.heap.size w w1) := by rw [← hw1]; exact bal (bal (Below.refl _ _) _) _
  have C1 : Cr w1 b S nd dp lg un := by rw [← hw1]; exact (H.out.alloc _).alloc _
  have Q1 : Hb w1 (w.heap.size + 1) m a 0 := by rw [← hw1]; refine Hb.new' _ ?_ _ _ _; simp
  have Z1 : Hb w1 w.heap.size 0 0 0 := by rw [← hw1]; exact (Hb.new _ _ _ _).alloc _
  clear hw1 p0
  have r0 := cell_regrown C1.parts.1
  have q0 := cell_regrown Q1.parts.1
  have q1 := cell_regrown Q1.parts.2.1
  have q2 := cell_regrown Q1.parts.2.2
  have cq0 := fun (d : Nat) (os : Array Obj) => Calls.regrown_of (w := w1) (d := d) (os := os) (K1.out _)
  have cq1 := fun (d : Nat) (os : Array Obj) => Calls.regrown_of (w := w1) (d := d) (os := os) (K2.out _)
  refine wp_region_quiet_below (by kernel_rfl) (by kernel_rfl) ?_
  repeat (first | go_big_quiet_step ((first | (with_reducible exact cq0 _ _) | (with_reducible exact cq1 _ _))) | quiet_step (first | (with_reducible exact cq0 _ _) | (with_reducible exact cq1 _ _)))
  refine wpQuiet_nil ?_
  intro _ hw'
  obtain ⟨⟨dq, osq⟩, hw''⟩ := hw'
  subst hw''
  have hb := below_regrown w1 dq osq
  have B2 := Lib.hid (btr B1.out hb)
  have C2 := Lib.hid (C1.keep hb)
  have Z2 := Z1.keep hb
  generalize grow (redrawn w1 dq) osq = w2 at *
  clear r0 q0 q1 q2 cq0 cq1 hb C1 Q1 Z1
  have zl := Z2.lt
  have zf := Z2.free
  obtain ⟨z0, z1, z2⟩ := Z2.parts
  have ZZ := (Z2.set3 0 0 0).parts
  obtain ⟨y0, y1, y2⟩ := ZZ
  go_wp2
  have hne : b ≠ w.heap.size := by omega
  exact bodyPost_ret (v := .tuple #[HdV 0 0 0, .bool false]) (by simp [results, Tryz.results39, go_sem, y0, y1, y2]) rfl ⟨rfl, ((C2.out.set hne 0 _).set hne 1 _).set hne 2 _, But.of (bsc (bsc (bsc B2.out (p := ⟨w.heap.size, 0, none⟩) (Nat.le_refl _) _) (p := ⟨w.heap.size, 1, none⟩) (Nat.le_refl _) _) (p := ⟨w.heap.size, 2, none⟩) (Nat.le_refl _) _)⟩
end Go.Proofs.YtfaaagmjmljhiaaGreatDoor
end
section
namespace Go.Proofs.YtfaaagmjmljhiaaGreatDoor
open Go.RowKit Go.Shelf
open Go.Sort (grow)
set_option linter.unusedVariables false

theorem But.stored {N B c : Nat} {a w : World} (h : But N B a w) (hc : N ≤ c) (i : Nat) (u : Value) : But N B a (w.setCell ⟨c, i, none⟩ u) :=
  h.trans ⟨rfl, rfl, rfl, by simp [World.setCell], fun k hk _ => Below.heap_setCell _ _ _ _ (by show k ≠ c; omega)⟩
theorem i64_same {z : Int} (h0 : -9223372036854775808 ≤ z) (h1 : z < 9223372036854775808) : IntKind.i64.wrap z = z := by
  simp only [IntKind.wrap, IntKind.signed, IntKind.bits]
  simp
  omega
theorem u64_or_nat (a b : Nat) (ha : a < 18446744073709551616) (hb : b < 18446744073709551616) : bits .or .u64 (a : Int) (b : Int) = ((a ||| b : Nat) : Int) := by
  have hx : a ||| b < 2 ^ 64 := Nat.or_lt_two_pow (by omega) (by omega)
  show IntKind.u64.wrap ((BitVec.ofInt 64 (a : Int) ||| BitVec.ofInt 64 (b : Int)).toNat : Int) = _
  rw [BitVec.toNat_or, BitVec.ofInt_natCast, BitVec.ofInt_natCast, BitVec.toNat_ofNat, BitVec.toNat_ofNat, Nat.mod_eq_of_lt (show a < 2 ^ 64 by omega), Nat.mod_eq_of_lt (show b < 2 ^ 64 by omega)]
  rw [IntKind.wrap_u64]
  omega
theorem or_byte (n c : Nat) (hn : n < 72057594037927936) (hc : c < 256) : bits .or .u64 ((n : Int) * 256) (c : Int) = ((n * 256 + c : Nat) : Int) := by
  have h := u64_or_nat (n * 256) c (by omega) (by omega)
  have e : n * 256 ||| c = n * 256 + c := by
    have := Nat.two_pow_add_eq_or_of_lt (i := 8) (b := c) (by omega) n
    rw [Nat.mul_comm n 256]
    exact this.symm
  rw [e] at h
  rw [← h]
  congr 1
theorem facts4 {W : World} {b c : Nat} {s : ByteArray} {nd dp : Int} {lg un : Bool} {m a n : Int} (h : Cr W b s nd dp lg un) (k : Hb W c m a n) :
    W.cell? ⟨b, 0, none⟩ = some (.string s) ∧ W.cell? ⟨c, 0, none⟩ = some (.int .i64 m) ∧ W.cell? ⟨c, 1, none⟩ = some (.int .i64 a) ∧ W.cell? ⟨c, 2, none⟩ = some (.int .u64 n) := ⟨h.parts.1, k.parts.1, k.parts.2.1, k.parts.2.2⟩
theorem Cr.drew {W : World} {b : Nat} {s : ByteArray} {nd dp : Int} {lg un : Bool} (h : Cr W b s nd dp lg un) : Cr W.drew b s nd dp lg un := h
theorem Hb.drew {W : World} {c : Nat} {m a n : Int} (h : Hb W c m a n) : Hb W.drew c m a n := h
set_option maxRecDepth 100000 in
set_option maxHeartbeats 2000000 in
theorem rhead_ok (S T : ByteArray) (h0 : 0 < S.size) (hS : S.size ≤ 140737488351232) (e1 : S.toList.isEmpty = false) (e2 : ¬ S.toList = []) (F : Int) (hF : (S[0].toNat : Int) = F) (hF0 : 0 ≤ F) (hF1 : F ≤ 255) (m a sz : Nat) (hm : F / 32 = (m : Int)) (ha : bits .and .i64 F 31 = (a : Int)) (hmy : hmay m a = true) (hs : sz < S.size) (hsz : hsz a = sz) (ha2 : a < 28 ∨ a = 31)
    (N : Nat → Nat) (hN0 : N 0 = if a < 24 then a else 0) (hNS : ∀ k, k < sz → ∃ h : 1 + k < S.size, N (k + 1) = N k * 256 + (S[1 + k]'h).toNat ∧ N k < 72057594037927936) (hT : S.extract (1 + sz) S.size = T)
    (b : Nat) (nd dp : Int) (lg un : Bool) (w : World) (h : Cr w b S nd dp lg un) :
    Calls Tryz.prog 39 #[.pointer (some ⟨b, 0, none⟩)] w fun e w' => e = .returned (.tuple #[HdV m a (N sz), .bool true]) ∧ Cr w' b T nd dp lg un ∧ But w.heap.size b w w' := by
  have hlt := h.lt
  have k1 := fun W => may_any m a 0 W
  rw [hmy] at k1
  have k2 := fun n W => hsize_any (m : Int) a n ha2 W
  rw [hsz] at k2
  have K1 := Lib.hid k1
  have K2 := Lib.hid k2
  have hs3 : decide ((S.size : Int) ≤ (sz : Int)) = false := decide_eq_false (by omega)
  have hs2 : ¬ (S.size : Int) ≤ (sz : Int) := by omega
  have p0 := fun o => (h.alloc o).parts.1
  have H := Lib.hid h
  have HN0 := Lib.hid hN0
  have HNS := Lib.hid hNS
  have HT := Lib.hid hT
  have HSZ := Lib.hid hsz
  clear h k1 k2 hmy hN0 hNS hT hsz
  have hs1 : 1 ≤ S.size := h0
  go_enter Tryz.func39, Tryz.ntmps39
  go_upto_region 5 with (fail)
  go_name_world w1 hw1
  have B1 : Hid (Below w.heap.size w w1) := by rw [← hw1]; exact bal (bal (Below.refl _ _) _) _
  have C1 : Cr w1 b S nd dp lg un := by rw [← hw1]; exact (H.out.alloc _).alloc _
  have Q1 : Hb w1 (w.heap.size + 1) m a 0 := by rw [← hw1]; refine Hb.new' _ ?_ _ _ _; simp
  have Z1 : Hb w1 w.heap.size 0 0 0 := by rw [← hw1]; exact (Hb.new _ _ _ _).alloc _
  clear hw1 p0
  have r0 := cell_regrown C1.parts.1
  have q0 := cell_regrown Q1.parts.1
  have q1 := cell_regrown Q1.parts.2.1
  have q2 := cell_regrown Q1.parts.2.2
  have cq0 := fun (d : Nat) (os : Array Obj) => Calls.regrown_of (w := w1) (d := d) (os := os) (K1.out _)
  have cq1 := fun (d : Nat) (os : Array Obj) => Calls.regrown_of (w := w1) (d := d) (os := os) (K2.out 0 _)
  refine wp_region_quiet_below (by kernel_rfl) (by kernel_rfl) ?_
  repeat (first | go_big_quiet_step ((first | (with_reducible exact cq0 _ _) | (with_reducible exact cq1 _ _))) | quiet_step (first | (with_reducible exact cq0 _ _) | (with_reducible exact cq1 _ _)))
  refine wpQuiet_nil ?_
  intro _ hw'
  obtain ⟨⟨dq, osq⟩, hw''⟩ := hw'
  subst hw''
  have hb := below_regrown w1 dq osq
  have B2 := Lib.hid (btr B1.out hb)
  have C2 := Lib.hid (C1.keep hb)
  have Q2 := Q1.keep hb
  have Z2 := Lib.hid (Z1.keep hb)
  generalize grow (redrawn w1 dq) osq = w2 at *
  clear r0 q0 q1 q2 cq0 cq1 hb C1 Q1 Z1
  have ql := Q2.lt
  have qf := Q2.free
  obtain ⟨q0, q1, q2⟩ := Q2.parts
  by_cases h24 : a < 24
  have g1 : (a : Int) < 24 := by omega
  have g2 : (0 : Int) ≤ (a : Int) := by omega
  have QN : Hb (w2.setCell ⟨w.heap.size + 1, 2, none⟩ (.int .u64 a)) (w.heap.size + 1) m a a := Q2.num _
  have CN := Lib.hid (C2.out.set (c := w.heap.size + 1) (by omega) 2 (.int .u64 a))
  have ZN := Lib.hid (Z2.out.other (d := w.heap.size + 1) (by omega) 2 (.int .u64 a))
  have BN := Lib.hid (bsc B2.out (p := ⟨w.heap.size + 1, 2, none⟩) (by show w.heap.size ≤ w.heap.size + 1; omega) (.int .u64 a))
  have EN : N 0 = a := by rw [HN0.out, if_pos h24]
  have QN2 : Hid (Hb (w2.setCell ⟨w.heap.size + 1, 2, none⟩ (.int .u64 a)) (w.heap.size + 1) m a (N 0 : Nat)) := by rw [EN]; exact QN
  obtain ⟨n0, n1, n2⟩ := QN.parts
  clear EN
  go_wp2_with (go_at_call 53; ((with_reducible refine (K2.out _ _).mono ?_); rintro e w3 ⟨rfl, hb⟩; have B3 := Lib.hid (btr BN.out hb); have C3 := Lib.hid (CN.out.keep hb); have Z3 := Lib.hid (Hb.keep hb ZN.out); have Q3 := Lib.hid (Hb.keep hb QN2.out); clear hb n0 n1 n2 QN QN2 CN ZN BN))
  rotate_left
  have g1 : ¬ (a : Int) < 24 := by omega
  have EN : N 0 = 0 := by rw [HN0.out, if_neg h24]
  have QN2 : Hid (Hb w2 (w.heap.size + 1) m a (N 0 : Nat)) := by rw [EN]; exact Q2
  clear EN
  go_wp2_with (go_at_call 53; ((with_reducible refine (K2.out _ _).mono ?_); rintro e w3 ⟨rfl, hb⟩; have B3 := Lib.hid (btr B2.out hb); have C3 := Lib.hid (C2.out.keep hb); have Z3 := Lib.hid (Hb.keep hb Z2.out); have Q3 := Lib.hid (Hb.keep hb QN2.out); clear hb QN2))
  all_goals
    clear ql qf q0 q1 q2 Q2 Z2 C2 B2 g1 h24 HN0
    go_loopw [47] (fun iv wr => ∃ k : Nat, k ≤ sz ∧ iv = .int .i64 k ∧ Hid (Below w.heap.size w wr) ∧ Hid (Cr wr b S nd dp lg un) ∧ Hid (Hb wr w.heap.size 0 0 0) ∧ Hid (Hb wr (w.heap.size + 1) m a (N k : Nat))) (fun iv _ => sz - (intOf iv).toNat)
    case atStart => exact ⟨0, Nat.zero_le _, rfl, B3, C3, Z3, Q3⟩
    case round =>
      obtain ⟨k, hk, rfl, BR, CR, ZR, QR⟩ := hrel
      rename World => wr
      clear B3 C3 Z3 Q3
      have ql := QR.out.lt
      have qf := QR.out.free
      obtain ⟨q0, q1, q2⟩ := QR.out.parts
      obtain ⟨r0, r1, r2, r3, r4⟩ := CR.out.parts
      clear r1 r2 r3 r4
      have cf := CR.out.free
      have hbl := CR.out.lt
      by_cases hlt : k < sz
      · obtain ⟨hp, hN, hNk⟩ := HNS.out k hlt
        obtain ⟨p, hpe⟩ : ∃ p : Nat, 1 + k = p := ⟨_, rfl⟩
        have hlt2 : (k : Int) < (sz : Int) := by omega
        have hpi : 1 + (k : Int) = (p : Int) := by omega
        have hpS : p < S.size := by omega
        have hpS2 : (p : Int) < (S.size : Int) := by omega
        obtain ⟨Bq, hBq⟩ : ∃ z : Int, (S[p].toNat : Int) = z := ⟨_, rfl⟩
        have hB0 : 0 ≤ Bq := by omega
        have hB1 : Bq ≤ 255 := by rw [← hBq]; have := S[p].toNat_lt; omega
        obtain ⟨n, hn⟩ : ∃ n : Nat, N k = n := ⟨_, rfl⟩
        obtain ⟨U, hU⟩ : ∃ U : Int, U = ((N (k + 1) : Nat) : Int) := ⟨_, rfl⟩
        have hor : bits .or .u64 ((n : Int) * 256) Bq = U := by
          have e : N (k + 1) = n * 256 + S[p].toNat := by rw [hN, hn]; congr 2; subst hpe; rfl
          rw [hU, e, ← hBq]
          exact or_byte n _ (by rw [← hn]; exact hNk) (by have := S[p].toNat_lt; omega)
        rw [hn] at hNk q2
        have QN := Lib.hid (QR.out.num U)
        have CN := Lib.hid (CR.out.set (c := w.heap.size + 1) (by omega) 2 (.int .u64 U))
        have ZN := Lib.hid (ZR.out.other (d := w.heap.size + 1) (by omega) 2 (.int .u64 U))
        have BN := Lib.hid (bsc BR.out (p := ⟨w.heap.size + 1, 2, none⟩) (by show w.heap.size ≤ w.heap.size + 1; omega) (.int .u64 U))
        have HU := Lib.hid hU
        clear hN hpe hn hU
        go_wp2
        go_region
        all_goals
          go_wp2
          go_roundw
          case rel => exact ⟨k + 1, by omega, by go_num, ⟨BN.out.os, BN.out.tape, BN.out.output, BN.out.size, BN.out.block⟩, CN.out, ZN.out, by rw [← HU.out]; exact QN.out⟩
          case measure => simp [intOf]; omega
      · have hkk : k = sz := by omega
        have hge : ¬ (k : Int) < (sz : Int) := by omega
        have QE : Hb wr (w.heap.size + 1) m a (N sz : Nat) := by rw [← hkk]; exact QR.out
        have hCR := CR.out
        have HZR := ZR
        have HBR := BR
        obtain ⟨s0, hs0⟩ : ∃ s0 : Nat, 1 + sz = s0 := ⟨_, rfl⟩
        have hs0i : 1 + (sz : Int) = (s0 : Int) := by omega
        have hs0b : s0 ≤ S.size := by omega
        have hs0c : (s0 : Int) ≤ (S.size : Int) := by omega
        have hs0d : (0 : Int) ≤ (s0 : Int) := by omega
        have hs0w : IntKind.i64.wrap (s0 : Int) = (s0 : Int) := i64_same (by omega) (by omega)
        have hT := HT.out
        rw [hs0] at hT
        clear hkk hlt hk QR hs0 q0 q1 q2
        go_wp2
        go_cut [] (fun wx => Hid (Cr wx b T nd dp lg un) ∧ Hid (Hb wx w.heap.size 0 0 0) ∧ Hid (Hb wx (w.heap.size + 1) m a (N sz : Nat)) ∧ Hid (But w.heap.size b w wx))
        case first =>
          obtain ⟨q0, q1, q2⟩ := QE.parts
          go_region_with (first | (go_at_call 53; (with_reducible refine (K2.out _ _).mono ?_); rintro e wf ⟨rfl, hb1⟩; have Cf : Cr wf b S nd dp lg un := Cr.keep (by repeat (first | (with_reducible exact hCR) | (with_reducible refine Cr.drew ?_) | (with_reducible refine Cr.alloc ?_ _))) hb1; have Qf : Hb wf (w.heap.size + 1) m a (N sz : Nat) := Hb.keep hb1 (by repeat (first | (with_reducible exact QE) | (with_reducible refine Hb.drew ?_) | (with_reducible refine Hb.alloc ?_ _))); have Zf : Hb wf w.heap.size 0 0 0 := Hb.keep hb1 (by repeat (first | (with_reducible exact HZR.out) | (with_reducible refine Hb.drew ?_) | (with_reducible refine Hb.alloc ?_ _))); have Bf : Below w.heap.size w wf := btr (by repeat (first | (with_reducible exact HBR.out) | (with_reducible refine Below.drew ?_) | (with_reducible refine bal ?_ _))) hb1; have fr := Cf.free; have flt := Cf.lt; have fr0 := Cf.parts.1; obtain ⟨x0, x1, x2⟩ := Qf.parts))
          all_goals
            go_wp2_with fail
            go_meet
            exact ⟨Lib.hid (Cf.rest T), Lib.hid (Zf.other (by omega) _ _), Lib.hid (Qf.other (by omega) _ _), Lib.hid ((But.of Bf).store 0 (.string T))⟩
        case rest =>
          obtain ⟨CX, ZX, QX, BX⟩ := hcut
          generalize wc = wx at *
          clear hCR HZR HBR QE qf cf ql CR ZR BR r0
          obtain ⟨q0, q1, q2⟩ := QX.out.parts
          have zl := ZX.out.lt
          have zf := ZX.out.free
          obtain ⟨z0, z1, z2⟩ := ZX.out.parts
          obtain ⟨y0, y1, y2⟩ := (ZX.out.set3 m a (N sz : Nat)).parts
          have hne : b ≠ w.heap.size := by omega
          go_wp2
          exact bodyPost_ret (v := .tuple #[HdV m a (N sz : Nat), .bool true]) (by simp [results, Tryz.results39, go_sem, y0, y1, y2]) rfl ⟨rfl, ((CX.out.set hne 0 _).set hne 1 _).set hne 2 _, ((BX.out.stored (Nat.le_refl _) 0 _).stored (Nat.le_refl _) 1 _).stored (Nat.le_refl _) 2 _⟩
/-- What the reader's head answers, by what is left. -/
def HeadIs (l : List UInt8) (b : Nat) (nd dp : Int) (lg un : Bool) (w : World) (e : Ending) (w' : World) : Prop :=
  match rhd l with
  | none => e = .returned (.tuple #[HdV 0 0 0, .bool false]) ∧ Cr w' b (str l) nd dp lg un ∧ But w.heap.size b w w'
  | some (m, a, n, r) => e = .returned (.tuple #[HdV m a n, .bool true]) ∧ Cr w' b (str r) nd dp lg un ∧ But w.heap.size b w w'
theorem byte_parts : ∀ c : Nat, c < 256 → ((c : Int) / 32 = ((c / 32 : Nat) : Int)) ∧ bits .and .i64 (c : Int) 31 = ((c % 32 : Nat) : Int) := by decide +kernel
theorem hmay_info {m a : Nat} (h : hmay m a = true) : a < 28 ∨ a = 31 := by
  unfold hmay at h
  split at h
  · exact Or.inr (by assumption)
  · have := of_decide_eq_true h; omega
theorem rhead_any (l : List UInt8) (hl : l.length ≤ 140737488351232) (b : Nat) (nd dp : Int) (lg un : Bool) (w : World) (h : Cr w b (str l) nd dp lg un) :
    Calls Tryz.prog 39 #[.pointer (some ⟨b, 0, none⟩)] w (HeadIs l b nd dp lg un w) := by
  cases l with
  | nil =>
    have e1 : (str []).toList.isEmpty = true := by decide +kernel
    have e2 : (str []).toList = [] := by decide +kernel
    exact rhead_nil (str []) e1 e2 b nd dp lg un w h
  | cons c t =>
    obtain ⟨e1, e2, e3, e4, e5⟩ := cons_facts8 c t
    have hc := c.toNat_lt
    obtain ⟨q1, q2⟩ := byte_parts c.toNat hc
    have hsS : (str (c :: t)).size = t.length + 1 := by rw [str_size]; rfl
    have hF : ((str (c :: t))[0].toNat : Int) = (c.toNat : Int) := by rw [e4 e3]
    by_cases hm : hmay (c.toNat / 32) (c.toNat % 32) = true
    · by_cases hs : hsz (c.toNat % 32) ≤ t.length
      · have er : rhd (c :: t) = some (c.toNat / 32, c.toNat % 32, (if c.toNat % 32 < 24 then c.toNat % 32 else nb (t.take (hsz (c.toNat % 32)))), t.drop (hsz (c.toNat % 32))) := if_pos ⟨hm, hs⟩
        have hin := hmay_info hm
        refine (?_ : Calls _ _ _ _ _).mono fun e w' hx => (by unfold HeadIs; rw [er]; exact hx)
        refine (rhead_ok (str (c :: t)) (str (t.drop (hsz (c.toNat % 32)))) e3 (by rw [str_size]; exact hl) e1 e2 c.toNat hF (by omega) (by omega) (c.toNat / 32) (c.toNat % 32) (hsz (c.toNat % 32)) q1 q2 hm (by omega) rfl hin
          (fun k => if c.toNat % 32 < 24 then c.toNat % 32 else nb (t.take k)) ?_ ?_ ?_ b nd dp lg un w h)
        · by_cases h24 : c.toNat % 32 < 24
          · rw [if_pos h24, if_pos h24]
          · rw [if_neg h24, if_neg h24, List.take_zero]; rfl
        · intro k hk
          have h24 : ¬ c.toNat % 32 < 24 := by
            intro hc2; rw [hsz_low hc2] at hk; omega
          have h8 : hsz (c.toNat % 32) ≤ 8 := by
            rcases (show c.toNat % 32 = 24 ∨ c.toNat % 32 = 25 ∨ c.toNat % 32 = 26 ∨ c.toNat % 32 = 27 ∨ c.toNat % 32 = 31 by omega) with e | e | e | e | e <;> rw [e] <;> decide
          have hkt : k < t.length := by omega
          refine ⟨by omega, ?_, ?_⟩
          · rw [if_neg h24, if_neg h24]
            have e6 : (str (c :: t))[1 + k]'(by omega) = t[k] := by
              rw [byte_at (c :: t) (1 + k)]
              simp only [Nat.add_comm 1 k, List.getElem_cons_succ]
            rw [e6, List.take_succ_eq_append_getElem hkt, nb_snoc]
          · rw [if_neg h24]
            have := nb_lt (t.take k)
            rw [List.length_take, Nat.min_eq_left (by omega)] at this
            exact Nat.lt_of_lt_of_le this (Nat.pow_le_pow_right (by decide) (show k ≤ 7 by omega))
        · rw [str_drop, Nat.add_comm]; rfl
      · have er : rhd (c :: t) = none := if_neg (fun hc => hs hc.2)
        refine (?_ : Calls _ _ _ _ _).mono fun e w' hx => (by unfold HeadIs; rw [er]; exact hx)
        exact rhead_short (str (c :: t)) e3 e1 e2 c.toNat hF (by omega) (by omega) (c.toNat / 32) (c.toNat % 32) q1 q2 hm (by omega) (hmay_info hm) b nd dp lg un w h
    · have er : rhd (c :: t) = none := if_neg (fun hc => hm hc.1)
      refine (?_ : Calls _ _ _ _ _).mono fun e w' hx => (by unfold HeadIs; rw [er]; exact hx)
      exact rhead_bad (str (c :: t)) e3 e1 e2 c.toNat hF (by omega) (by omega) (c.toNat / 32) (c.toNat % 32) q1 q2 (by simpa using hm) b nd dp lg un w h
end Go.Proofs.YtfaaagmjmljhiaaGreatDoor
end
section
namespace Go.Proofs.YtfaaagmjmljhiaaGreatDoor
open Go.RowKit Go.Shelf
open Go.Sort (grow)
set_option linter.unusedVariables false

theorem But.stored10 {N B c : Nat} {a X : World} (h : But N B a X) (hc : N ≤ c) (u0 u1 u2 u3 u4 u5 u6 u7 u8 u9 : Value) :
    But N B a (((((((((((X).setCell ⟨c, 0, none⟩ u0).setCell ⟨c, 1, none⟩ u1).setCell ⟨c, 2, none⟩ u2).setCell ⟨c, 3, none⟩ u3).setCell ⟨c, 4, none⟩ u4).setCell ⟨c, 5, none⟩ u5).setCell ⟨c, 6, none⟩ u6).setCell ⟨c, 7, none⟩ u7).setCell ⟨c, 8, none⟩ u8).setCell ⟨c, 9, none⟩ u9) :=
  (((((((((h.stored hc 0 u0).stored hc 1 u1).stored hc 2 u2).stored hc 3 u3).stored hc 4 u4).stored hc 5 u5).stored hc 6 u6).stored hc 7 u7).stored hc 8 u8).stored hc 9 u9
theorem Cr.set10 {X : World} {b c : Nat} {s : ByteArray} {nd dp : Int} {lg un : Bool} (h : Cr X b s nd dp lg un) (hc : b ≠ c) (u0 u1 u2 u3 u4 u5 u6 u7 u8 u9 : Value) :
    Cr (((((((((((X).setCell ⟨c, 0, none⟩ u0).setCell ⟨c, 1, none⟩ u1).setCell ⟨c, 2, none⟩ u2).setCell ⟨c, 3, none⟩ u3).setCell ⟨c, 4, none⟩ u4).setCell ⟨c, 5, none⟩ u5).setCell ⟨c, 6, none⟩ u6).setCell ⟨c, 7, none⟩ u7).setCell ⟨c, 8, none⟩ u8).setCell ⟨c, 9, none⟩ u9) b s nd dp lg un :=
  (((((((((h.set hc 0 u0).set hc 1 u1).set hc 2 u2).set hc 3 u3).set hc 4 u4).set hc 5 u5).set hc 6 u6).set hc 7 u7).set hc 8 u8).set hc 9 u9
abbrev NullV : Value := V10 1 false 0 0 0 0 0 ⟨#[]⟩ none 0 0 none 0 0
theorem lost_any (S : ByteArray) (b : Nat) (nd dp : Int) (lg un : Bool) (w : World) (h : Cr w b S nd dp lg un) :
    Calls Tryz.prog 105 #[.pointer (some ⟨b, 0, none⟩)] w fun e w' => e = .returned NullV ∧ Cr w' b S nd dp lg true ∧ But w.heap.size b w w' := by
  have hlt := h.lt
  have hA := fun o => h.alloc o
  have p4 := fun o => (hA o).parts.2.2.2.2
  have pf := fun o => (hA o).free 4
  have H := Lib.hid h
  clear h hA
  go_enter Tryz.func105, Tryz.ntmps105
  go_wp2
  exact bodyPost_ret (v := NullV) (by simp [results, Tryz.results105, go_sem]) rfl ⟨rfl, (H.out.unrep true).alloc _, ((But.refl _ _ _).store 4 (.bool true)).made (by simp) _⟩
theorem count_any (S : ByteArray) (n most : Int) (b : Nat) (nd dp : Int) (lg un : Bool) (w : World) (h : Cr w b S nd dp lg un) :
    Calls Tryz.prog 109 #[.pointer (some ⟨b, 0, none⟩), .int .i64 n, .int .i64 most] w fun e w' => e = .returned (.tuple #[]) ∧ Cr w' b S nd dp (lg || decide (most < n)) un ∧ But w.heap.size b w w' := by
  have hlt := h.lt
  have p3 := h.parts.2.2.2.1
  have pf := h.free
  have H := Lib.hid h
  clear h
  cases lg with
  | true =>
    go_enter Tryz.func109, Tryz.ntmps109
    go_wp2
    exact bodyPost_end (v := .tuple #[]) (by simp [results, Tryz.results109, go_sem]) rfl ⟨rfl, H.out.long _, (But.refl _ _ _).store _ _⟩
  | false =>
    go_enter Tryz.func109, Tryz.ntmps109
    go_wp2
    exact bodyPost_end (v := .tuple #[]) (by simp [results, Tryz.results109, go_sem]) rfl ⟨rfl, H.out.long _, (But.refl _ _ _).store _ _⟩
theorem number_ok (g : Bool) (x0 x1 x2 x3 : Int) (S : ByteArray) (b : Nat) (nd dp : Int) (lg un : Bool) (w : World) (h : Cr w b S nd dp lg un) :
    Calls Tryz.prog 70 #[.pointer (some ⟨b, 0, none⟩), .agg #[.bool g, .int .u64 x0, .int .u64 x1, .int .u64 x2, .int .u64 x3], .bool true] w fun e w' => e = .returned (V10 3 g x0 x1 x2 x3 0 ⟨#[]⟩ none 0 0 none 0 0) ∧ Cr w' b S nd dp lg un ∧ But w.heap.size b w w' := by
  have H := Lib.hid h
  clear h
  go_enter Tryz.func70, Tryz.ntmps70
  go_wp2
  exact bodyPost_ret (v := V10 3 g x0 x1 x2 x3 0 ⟨#[]⟩ none 0 0 none 0 0) (by simp [results, Tryz.results70, go_sem]) rfl ⟨rfl, (H.out.alloc _).alloc _, But.of (bal (bal (Below.refl _ _) _) _)⟩
theorem Row10.but {W W' : World} {b c : Nat} {v0 v1 v2 v3 v4 v5 v6 v7 v8 v9 : Value} (h : Row10 W c v0 v1 v2 v3 v4 v5 v6 v7 v8 v9) (hb : But W.heap.size b W W') (hne : c ≠ b) : Row10 W' c v0 v1 v2 v3 v4 v5 v6 v7 v8 v9 := (hb.block c h.lt hne).trans h
theorem Row10.new' (W : World) {c : Nat} (hc : W.heap.size = c) (v0 v1 v2 v3 v4 v5 v6 v7 v8 v9 : Value) : Row10 (W.alloc (.cells #[v0, v1, v2, v3, v4, v5, v6, v7, v8, v9] 33)) c v0 v1 v2 v3 v4 v5 v6 v7 v8 v9 := by subst hc; exact Row10.new W _ _ _ _ _ _ _ _ _ _
theorem Hb.but {W W' : World} {b c : Nat} {m a n : Int} (h : Hb W c m a n) (hb : But W.heap.size b W W') (hne : c ≠ b) : Hb W' c m a n := (hb.block c h.lt hne).trans h
theorem number_lost (g : Bool) (x0 x1 x2 x3 : Int) (S : ByteArray) (b : Nat) (nd dp : Int) (lg un : Bool) (w : World) (h : Cr w b S nd dp lg un) :
    Calls Tryz.prog 70 #[.pointer (some ⟨b, 0, none⟩), .agg #[.bool g, .int .u64 x0, .int .u64 x1, .int .u64 x2, .int .u64 x3], .bool false] w fun e w' => e = .returned NullV ∧ Cr w' b S nd dp lg true ∧ But w.heap.size b w w' := by
  have H := Lib.hid h
  have HL := Lib.hid (fun (W : World) (h : Cr W b S nd dp lg un) => lost_any S b nd dp lg un W h)
  clear h
  have hlt := H.out.lt
  have hne : w.heap.size + 1 ≠ b := by omega
  have Z0 := Lib.hid (Row10.new' (w.alloc (.cells #[.bool g, .int .u64 x0, .int .u64 x1, .int .u64 x2, .int .u64 x3] 30)) (c := w.heap.size + 1) (by simp) (.int .i64 0) (.bool false) (.int .u64 0) (.int .u64 0) (.int .u64 0) (.int .u64 0) (.int .u64 0) (.string ⟨#[]⟩) (.slice none 0 0) (.slice none 0 0))
  have BW := Lib.hid (But.of (B := b) (bal (bal (Below.refl _ w) (.cells #[.bool g, .int .u64 x0, .int .u64 x1, .int .u64 x2, .int .u64 x3] 30)) (.cells #[.int .i64 0, .bool false, .int .u64 0, .int .u64 0, .int .u64 0, .int .u64 0, .int .u64 0, .string ⟨#[]⟩, .slice none 0 0, .slice none 0 0] 33)))
  go_enter Tryz.func70, Tryz.ntmps70
  go_wp2_with (go_at_call 105; ((with_reducible refine (HL.out _ ((H.out.alloc _).alloc _)).mono ?_); rintro e w1 ⟨rfl, c1, b1⟩; have Z1 := Z0.out.but b1 hne; have B1 := Lib.hid (BW.out.seq b1); obtain ⟨z0, z1, z2, z3, z4, z5, z6, z7, z8, z9⟩ := Z1.parts; have zf := Z1.free; have zl := Z1.lt; have H1 := Lib.hid c1; clear c1 b1))
  obtain ⟨y0, y1, y2, y3, y4, y5, y6, y7, y8, y9⟩ := (Z1.set10 (.int .i64 1) (.bool false) (.int .u64 0) (.int .u64 0) (.int .u64 0) (.int .u64 0) (.int .u64 0) (.string ⟨#[]⟩) (.slice none 0 0) (.slice none 0 0)).parts
  exact bodyPost_ret (v := NullV) (by simp [results, Tryz.results70, go_sem, y0, y1, y2, y3, y4, y5, y6, y7, y8, y9]) rfl ⟨rfl, H1.out.set10 hne.symm _ _ _ _ _ _ _ _ _ _, B1.out.stored10 (by omega) _ _ _ _ _ _ _ _ _ _⟩
set_option maxHeartbeats 1000000 in
set_option maxRecDepth 100000 in
theorem below_core (x0 x1 x2 x3 s0 s1 s2 s3 : Int) (ok : Bool) (w : World)
    (k1 : ∀ W, Calls Tryz.prog 107 #[.agg #[.int .u64 x0, .int .u64 x1, .int .u64 x2, .int .u64 x3], .agg #[.int .u64 1, .int .u64 0, .int .u64 0, .int .u64 0]] W fun e w' => e = .returned (.tuple #[.agg #[.int .u64 s0, .int .u64 s1, .int .u64 s2, .int .u64 s3], .bool ok]) ∧ Below W.heap.size W w') :
    Calls Tryz.prog 71 #[.agg #[.int .u64 x0, .int .u64 x1, .int .u64 x2, .int .u64 x3]] w fun e w' => e = .returned (.tuple #[.agg #[.bool ok, .int .u64 s0, .int .u64 s1, .int .u64 s2, .int .u64 s3], .bool ok]) ∧ Below w.heap.size w w' := by
  have K1 := Lib.hid k1; clear k1
  go_enter Tryz.func71, Tryz.ntmps71
  go_upto_region 1 with (fail)
  go_name_world w1 hw1
  have BW1 : Below w.heap.size w w1 := by rw [← hw1]; exact bal (bal (Below.refl _ _) _) _
  have X1 : Row4 w1 w.heap.size (.int .u64 x0) (.int .u64 x1) (.int .u64 x2) (.int .u64 x3) := by rw [← hw1]; exact (Row4.new _ _ _ _ _).alloc _
  have R1 : Row5 w1 (w.heap.size + 1) (.bool false) (.int .u64 0) (.int .u64 0) (.int .u64 0) (.int .u64 0) := by rw [← hw1]; refine Row5.new' _ ?_ _ _ _ _ _; simp
  clear hw1
  have lt_X := X1.lt
  have lt_R := R1.lt
  go_cut [4, 5] (fun s4 s5 wx => ∃ p : Nat, s4 = .pointer (some ⟨p, 0, none⟩) ∧ s5 = .bool ok ∧ Row4 wx p (.int .u64 s0) (.int .u64 s1) (.int .u64 s2) (.int .u64 s3) ∧ w1.heap.size ≤ p ∧ Below w1.heap.size w1 wx)
  case first =>
    go_region_held3 (fun w' => w'.cell? ⟨w.heap.size, 0, none⟩ = some (.int .u64 x0) ∧ w'.cell? ⟨w.heap.size, 1, none⟩ = some (.int .u64 x1) ∧ w'.cell? ⟨w.heap.size, 2, none⟩ = some (.int .u64 x2) ∧ w'.cell? ⟨w.heap.size, 3, none⟩ = some (.int .u64 x3))
      ((refine Row4.four ?_; (repeat (first | (with_reducible assumption) | (with_reducible refine Row4.alloc ?_ _) | (with_reducible refine Row4.drew ?_) | ((with_reducible refine Row4.set ?_ ?_ _); rotate_left; (focus (omega))))); done))
      (first | (go_at_call 55; refine (of_one _ _).mono ?_; rintro e w9 ⟨rfl, o1, rfl⟩) | (go_at_call 107; (with_reducible refine (K1.out _).mono ?_); rintro e wf1 ⟨rfl, hb1⟩; have Xf1 : Row4 wf1 w.heap.size (.int .u64 x0) (.int .u64 x1) (.int .u64 x2) (.int .u64 x3) := Row4.keep hb1 (by repeat (first | (with_reducible assumption) | (with_reducible refine Row4.alloc ?_ _) | (with_reducible refine Row4.drew ?_))); have ltXf1 := Xf1.lt; (first | (refine absorb (P := Row4 wf1 w1.heap.size (.int .u64 0) (.int .u64 0) (.int .u64 0) (.int .u64 0)) (Row4.keep hb1 ?_) (fun Z1 => ?_); (focus ((repeat (first | ((with_reducible refine Row4.new' _ ?_ _ _ _ _); (simp; done)) | (with_reducible refine Row4.alloc ?_ _) | (with_reducible refine Row4.drew ?_))); done))) | (refine absorb (P := Row4 wf1 (w1.heap.size + 1) (.int .u64 0) (.int .u64 0) (.int .u64 0) (.int .u64 0)) (Row4.keep hb1 ?_) (fun Z1 => ?_); (focus ((repeat (first | ((with_reducible refine Row4.new' _ ?_ _ _ _ _); (simp; done)) | (with_reducible refine Row4.alloc ?_ _) | (with_reducible refine Row4.drew ?_))); done))) | skip); (first | (obtain ⟨zc0, zc1, zc2, zc3⟩ := Z1.four; obtain ⟨zf0, zf1, zf2, zf3⟩ := Z1.free4) | skip)))
    all_goals
      have BB1 : Below w1.heap.size w1 wf1 := btr (by repeat (first | (with_reducible exact Below.refl _ _) | (with_reducible refine bal ?_ _) | (with_reducible refine Below.drew ?_) | (with_reducible refine bdn ?_ _))) hb1
      have hs := BB1.size
      go_wp2_with fail
      go_meet
      first
        | with_reducible exact ⟨_, rfl, rfl, Row4.new _ _ _ _ _, hs, bal BB1 _⟩
        | with_reducible exact ⟨_, rfl, rfl, Row4.set4 Z1 _ _ _ _, by omega, bsc4 BB1 (by omega) _ _ _ _⟩
  case rest =>
    obtain ⟨pP, rfl, rfl, P2, hpP, hb⟩ := hcut
    generalize wc = w2 at *
    have BW2 := Lib.hid (btr BW1 hb)
    have R2 := Row5.keep hb R1
    clear X1 BW1 hb R1
    obtain ⟨Pc0, Pc1, Pc2, Pc3⟩ := P2.four
    obtain ⟨Rc0, Rc1, Rc2, Rc3, Rc4⟩ := R2.parts
    obtain ⟨Rf0, Rf1, Rf2, Rf3, Rf4⟩ := R2.free
    go_wp2
    exact bodyPost_ret (v := .tuple #[.agg #[.bool ok, .int .u64 s0, .int .u64 s1, .int .u64 s2, .int .u64 s3], .bool ok]) (by simp [results, Tryz.results71, go_sem, Rc0, Rc1, Rc2, Rc3, Rc4]) rfl ⟨rfl, bsc5 BW2.out (by omega) _ _ _ _ _⟩
/-- below: -1 - x, if it may be. -/
theorem below_ok (x : Nat) (hx : x + 1 < 2 ^ 256) (w : World) :
    Calls Tryz.prog 71 #[N4 x] w fun e w' => e = .returned (.tuple #[.agg #[.bool true, .int .u64 (lb 0 (x + 1)), .int .u64 (lb 1 (x + 1)), .int .u64 (lb 2 (x + 1)), .int .u64 (lb 3 (x + 1))], .bool true]) ∧ Below w.heap.size w w' := by
  have k1 := fun W => add_ok x 1 (by omega) (by decide) hx W
  have e1 : N4 1 = .agg #[.int .u64 1, .int .u64 0, .int .u64 0, .int .u64 0] := by unfold N4; rfl
  rw [e1] at k1
  unfold N4 at *
  exact below_core _ _ _ _ _ _ _ _ true w k1
theorem below_over (x : Nat) (hx : x < 2 ^ 256) (h : ¬ x + 1 < 2 ^ 256) (w : World) :
    Calls Tryz.prog 71 #[N4 x] w fun e w' => e = .returned (.tuple #[.agg #[.bool false, .int .u64 0, .int .u64 0, .int .u64 0, .int .u64 0], .bool false]) ∧ Below w.heap.size w w' := by
  have k1 := fun W => add_over x 1 hx (by decide) h W
  have e1 : N4 1 = .agg #[.int .u64 1, .int .u64 0, .int .u64 0, .int .u64 0] := by unfold N4; rfl
  have e0 : N4 0 = .agg #[.int .u64 0, .int .u64 0, .int .u64 0, .int .u64 0] := by unfold N4; rfl
  rw [e1, e0] at k1
  unfold N4 at *
  exact below_core _ _ _ _ _ _ _ _ false w k1
end Go.Proofs.YtfaaagmjmljhiaaGreatDoor
end
section
namespace Go.Proofs.YtfaaagmjmljhiaaGreatDoor
open Go.RowKit Go.Shelf
open Go.Sort (grow)
set_option linter.unusedVariables false

theorem But.drew {N B : Nat} {a X : World} (h : But N B a X) : But N B a X.drew := ⟨h.os, h.tape, h.output, h.size, h.block⟩
theorem But.drewN {N B : Nat} {a X : World} (h : But N B a X) (n : Nat) : But N B a (X.drewN n) := ⟨h.os, h.tape, h.output, h.size, h.block⟩
theorem Cr.drewN {W : World} {b : Nat} {s : ByteArray} {nd dp : Int} {lg un : Bool} (h : Cr W b s nd dp lg un) (n : Nat) : Cr (W.drewN n) b s nd dp lg un := h
theorem chunk_short (S : ByteArray) (m a n : Nat) (hn : S.size < n) (hS : S.size ≤ 140737488351232) (b : Nat) (nd dp : Int) (lg un : Bool) (w : World) (h : Cr w b S nd dp lg un) :
    Calls Tryz.prog 108 #[.pointer (some ⟨b, 0, none⟩), HdV m a n] w fun e w' => e = .returned (.tuple #[.string ⟨#[]⟩, .bool false]) ∧ Cr w' b S nd dp lg un ∧ But w.heap.size b w w' := by
  have H := Lib.hid h
  have hlt := h.lt
  have H0 := Hb.new w m a n
  have p0 := (h.alloc (.cells #[.int .i64 m, .int .i64 a, .int .u64 n] 69)).parts.1
  obtain ⟨q0, q1, q2⟩ := H0.parts
  have hg : (S.size : Int) < (n : Int) := by omega
  clear h
  go_enter Tryz.func108, Tryz.ntmps108
  go_wp2
  go_region
  all_goals
    go_wp2
    go_ret2
    exact ⟨rfl, H.out.alloc _, But.of (bdn (bal (Below.refl _ _) _) 1)⟩
set_option maxRecDepth 100000 in
theorem chunk_ok (S T R : ByteArray) (m a n : Nat) (hn : n ≤ S.size) (hS : S.size ≤ 140737488351232) (hT : S.extract 0 n = T) (hR : S.extract n S.size = R) (v : Bool) (b : Nat) (nd dp : Int) (lg un : Bool) (w : World) (h : Cr w b S nd dp lg un)
    (k1 : ∀ W, Calls Tryz.prog 50 #[.string T] W fun e w' => e = .returned (.bool v) ∧ w' = W) :
    Calls Tryz.prog 108 #[.pointer (some ⟨b, 0, none⟩), HdV m a n] w fun e w' => e = .returned (.tuple #[.string T, .bool (decide (m = 2) || v)]) ∧ Cr w' b R nd dp lg un ∧ But w.heap.size b w w' := by
  have H := Lib.hid h
  have K1 : Hid (∀ W, Calls Tryz.prog 50 #[.string T] W fun e w' => e = .returned (.bool v) ∧ W = w') := fun W => (k1 W).mono fun _ _ ⟨a, b⟩ => ⟨a, b.symm⟩
  have hlt := h.lt
  have H0 := Hb.new w m a n
  have C0 := h.alloc (.cells #[.int .i64 m, .int .i64 a, .int .u64 n] 69)
  have HC0 := Lib.hid C0
  have p0 := C0.parts.1
  have pf := C0.free
  obtain ⟨q0, q1, q2⟩ := H0.parts
  have hg : (n : Int) ≤ (S.size : Int) := by omega
  have hg0 : (0 : Int) ≤ (n : Int) := by omega
  have hng : ¬ (S.size : Int) < (n : Int) := by omega
  clear h k1
  have HF : Hid (Cr ((w.setCell ⟨b, 0, none⟩ (.string R)).alloc (.cells #[.int .i64 m, .int .i64 a, .int .u64 n] 69)) b R nd dp lg un ∧ But w.heap.size b w ((w.setCell ⟨b, 0, none⟩ (.string R)).alloc (.cells #[.int .i64 m, .int .i64 a, .int .u64 n] 69))) :=
    ⟨(H.out.rest R).alloc _, ((But.refl _ _ _).store 0 (.string R)).made (by simp) _⟩
  by_cases h2 : m = 2
  · have hm : ((m : Int) == 2) = true := by rw [beq_iff_eq]; omega
    rw [decide_eq_true h2, Bool.true_or]
    clear h2
    go_enter Tryz.func108, Tryz.ntmps108
    go_wp2
    go_region
    go_wp2
    go_region
    go_wp2
    go_region
    all_goals
      go_wp2
      go_ret2
      exact ⟨rfl, HF.out.1, ⟨HF.out.2.os, HF.out.2.tape, HF.out.2.output, HF.out.2.size, HF.out.2.block⟩⟩
  · have hm : ((m : Int) == 2) = false := by rw [beq_eq_false_iff_ne]; omega
    rw [decide_eq_false h2, Bool.false_or]
    clear h2
    go_enter Tryz.func108, Tryz.ntmps108
    go_wp2
    go_region
    go_wp2
    go_region
    go_wp2
    go_region
    all_goals
      go_wp2_with (go_at_call 50; ((with_reducible refine (K1.out _).mono ?_); rintro e w' ⟨rfl, rfl⟩))
      go_ret2
      exact ⟨rfl, HF.out.1, ⟨HF.out.2.os, HF.out.2.tape, HF.out.2.output, HF.out.2.size, HF.out.2.block⟩⟩
/-- A block of one cell. -/
def One (W : World) (c : Nat) (v : Value) (t : TypeId) : Prop := W.heap[c]? = some (.cells #[v] t (0, 0))
section
variable {W W' : World} {c : Nat} {v : Value} {t : TypeId}
theorem One.lt (h : One W c v t) : c < W.heap.size := by
  unfold One at h
  exact (Array.getElem?_eq_some_iff.1 h).1
theorem One.new (W : World) (v : Value) (t : TypeId) : One (W.alloc (.cells #[v] t)) W.heap.size v t := heap_alloc_new W _
theorem One.alloc (h : One W c v t) (o : Obj) : One (W.alloc o) c v t := (Below.heap_alloc W o c h.lt).trans h
theorem One.keep (hb : Below W.heap.size W W') (h : One W c v t) : One W' c v t := (hb.block c h.lt).trans h
theorem One.but {b : Nat} (h : One W c v t) (hb : But W.heap.size b W W') (hne : c ≠ b) : One W' c v t := (hb.block c h.lt hne).trans h
theorem One.cell (h : One W c v t) : W.cell? ⟨c, 0, none⟩ = some v := cell_of_row W c 0 _ _ _ h
end
end Go.Proofs.YtfaaagmjmljhiaaGreatDoor
end
section
namespace Go.Proofs.YtfaaagmjmljhiaaGreatDoor
open Go.RowKit Go.Shelf
open Go.Sort (grow)
set_option linter.unusedVariables false

/-- One word of a row of four is stored. -/
theorem Row4.lay0 {W : World} {b : Nat} {v0 v1 v2 v3 : Value} (h : Row4 W b v0 v1 v2 v3) (u : Value) : Row4 (W.setCell ⟨b, 0, none⟩ u) b u v1 v2 v3 := by
  unfold Row4 at *
  simpa using heap_setCell_same W b 0 _ _ u h
theorem Row4.lay1 {W : World} {b : Nat} {v0 v1 v2 v3 : Value} (h : Row4 W b v0 v1 v2 v3) (u : Value) : Row4 (W.setCell ⟨b, 1, none⟩ u) b v0 u v2 v3 := by
  unfold Row4 at *
  simpa using heap_setCell_same W b 1 _ _ u h
theorem Row4.lay2 {W : World} {b : Nat} {v0 v1 v2 v3 : Value} (h : Row4 W b v0 v1 v2 v3) (u : Value) : Row4 (W.setCell ⟨b, 2, none⟩ u) b v0 v1 u v3 := by
  unfold Row4 at *
  simpa using heap_setCell_same W b 2 _ _ u h
theorem Row4.lay3 {W : World} {b : Nat} {v0 v1 v2 v3 : Value} (h : Row4 W b v0 v1 v2 v3) (u : Value) : Row4 (W.setCell ⟨b, 3, none⟩ u) b v0 v1 v2 u := by
  unfold Row4 at *
  simpa using heap_setCell_same W b 3 _ _ u h
/-- Bytes without the noughts ahead. -/
def nz (l : List UInt8) : List UInt8 := l.dropWhile fun b => ([0] : List UInt8).contains b
theorem nz_len (l : List UInt8) : (nz l).length ≤ l.length := (List.dropWhile_sublist _).length_le
theorem trim_zeros (l : List UInt8) (w : World) :
    Calls Tryz.prog 139 #[.string (str l), .string ⟨#[0]⟩] w fun e w' => e = .returned (.string (str (nz l))) ∧ Below w.heap.size w w' := by
  have h := trim_left (str l) ⟨#[0]⟩ w (by decide) (ascii_of_all (by decide))
  rw [str_data] at h
  exact h
/-- What has been laid behind so many bytes. -/
def nx (l : List UInt8) (i : Nat) : Nat := nb (l.take i) * 256 ^ (l.length - i)
theorem nx_zero (l : List UInt8) : nx l 0 = 0 := by unfold nx; simp [nb]
theorem nx_all (l : List UInt8) : nx l l.length = nb l := by unfold nx; simp
theorem nx_step {l : List UInt8} {i : Nat} (h : i < l.length) : nx l (i + 1) = nx l i + l[i].toNat * 256 ^ (l.length - 1 - i) := by
  unfold nx
  rw [List.take_succ_eq_append_getElem h, nb_snoc, Nat.add_mul, show l.length - (i + 1) = l.length - 1 - i by omega, show l.length - i = (l.length - 1 - i) + 1 by omega, Nat.pow_succ]
  congr 1
  rw [Nat.mul_assoc, Nat.mul_comm 256]
theorem nx_form (l : List UInt8) (i k : Nat) (hk : l.length - i = k + 1) : ∃ y, nx l i = y * 2 ^ (8 * k + 8) := by
  refine ⟨nb (l.take i), ?_⟩
  unfold nx
  rw [hk, show 8 * k + 8 = 8 * (k + 1) by omega, Nat.pow_mul]
/-- The limb that takes a byte, and the others. -/
theorem limb_take (y c d r : Nat) (hr : r ≤ 56) (hc : c < 256) (j : Nat) (hj : j < 4) :
    lb j (y * 2 ^ (64 * d + r + 8) + c * 2 ^ (64 * d + r)) = if j = d then lb d (y * 2 ^ (64 * d + r + 8)) + (c : Int) * 2 ^ r else lb j (y * 2 ^ (64 * d + r + 8)) := by
  have hcr : c * 2 ^ r < 2 ^ (r + 8) := by
    rw [Nat.pow_add, Nat.mul_comm]
    exact Nat.mul_lt_mul_of_pos_left (by omega) (Nat.two_pow_pos r)
  have e0 : y * 2 ^ (64 * d + r + 8) = 2 ^ (64 * d) * (y * 2 ^ (r + 8)) := by
    rw [show 64 * d + r + 8 = 64 * d + (r + 8) by omega, Nat.pow_add (n := r + 8), Nat.mul_left_comm]
  have e1 : y * 2 ^ (64 * d + r + 8) + c * 2 ^ (64 * d + r) = 2 ^ (64 * d) * (y * 2 ^ (r + 8) + c * 2 ^ r) := by
    rw [e0, Nat.mul_add]; congr 1; rw [Nat.pow_add, Nat.mul_left_comm]
  have h64 : (2 : Nat) ^ 64 = 2 ^ (r + 8) * 2 ^ (56 - r) := by rw [← Nat.pow_add]; congr 1; omega
  rw [e1, e0]
  unfold lb
  rcases Nat.lt_trichotomy j d with h | h | h
  · rw [if_neg (by omega)]
    have e2 : ∀ z : Nat, 2 ^ (64 * d) * z / 2 ^ (64 * j) % 18446744073709551616 = 0 := fun z => by
      rw [show 64 * d = 64 * j + (64 + 64 * (d - j - 1)) by omega, Nat.pow_add, Nat.mul_assoc, Nat.mul_div_cancel_left _ (Nat.two_pow_pos _), Nat.pow_add, Nat.mul_assoc]
      exact Nat.mul_mod_right _ _
    rw [e2, e2]
  · subst h
    rw [if_pos rfl, Nat.mul_div_cancel_left _ (Nat.two_pow_pos _), Nat.mul_div_cancel_left _ (Nat.two_pow_pos _)]
    have e3 : (y * 2 ^ (r + 8) + c * 2 ^ r) % 18446744073709551616 = y * 2 ^ (r + 8) % 18446744073709551616 + c * 2 ^ r := by
      have k1 : ∀ z : Nat, z < 2 ^ (r + 8) → (y * 2 ^ (r + 8) + z) % 18446744073709551616 = 2 ^ (r + 8) * (y % 2 ^ (56 - r)) + z := fun z hz => by
        rw [show (18446744073709551616 : Nat) = 2 ^ (r + 8) * 2 ^ (56 - r) from h64, Nat.mod_mul, Nat.mul_comm y]
        rw [Nat.mul_add_mod, Nat.mod_eq_of_lt hz, Nat.mul_add_div (Nat.two_pow_pos _), Nat.div_eq_of_lt hz]
        simp [Nat.add_comm]
      rw [k1 _ hcr]
      have := k1 0 (Nat.two_pow_pos _)
      rw [Nat.add_zero] at this
      rw [this]
      simp only [Nat.add_zero]
    rw [e3]
    simp
  · rw [if_neg (by omega)]
    have e4 : ∀ z : Nat, z < 2 ^ (r + 8) → 2 ^ (64 * d) * (y * 2 ^ (r + 8) + z) / 2 ^ (64 * j) = y * 2 ^ (r + 8) / 2 ^ (64 * (j - d)) := fun z hz => by
      rw [show 64 * j = 64 * d + 64 * (j - d) by omega, Nat.pow_add (m := 64 * d) (n := 64 * (j - d)), Nat.mul_div_mul_left _ _ (Nat.two_pow_pos _)]
      rw [show 64 * (j - d) = (r + 8) + (64 * (j - d) - (r + 8)) by omega, Nat.pow_add (m := r + 8), ← Nat.div_div_eq_div_mul, ← Nat.div_div_eq_div_mul, Nat.mul_comm y, Nat.mul_add_div (Nat.two_pow_pos _), Nat.div_eq_of_lt hz, Nat.add_zero, Nat.mul_div_cancel_left _ (Nat.two_pow_pos _)]
    rw [e4 _ hcr]
    have := e4 0 (Nat.two_pow_pos _)
    rw [Nat.add_zero] at this
    rw [this]
theorem limb_low (y d r : Nat) (hr : r ≤ 56) : ∃ z : Nat, z < 2 ^ (56 - r) ∧ lb d (y * 2 ^ (64 * d + r + 8)) = ((2 ^ (r + 8) * z : Nat) : Int) := by
  refine ⟨y % 2 ^ (56 - r), Nat.mod_lt _ (Nat.two_pow_pos _), ?_⟩
  unfold lb
  have e0 : y * 2 ^ (64 * d + r + 8) = 2 ^ (64 * d) * (2 ^ (r + 8) * y) := by
    rw [show 64 * d + r + 8 = 64 * d + (r + 8) by omega, Nat.pow_add (n := r + 8), Nat.mul_left_comm]; congr 1; exact Nat.mul_comm _ _
  have h64 : (18446744073709551616 : Nat) = 2 ^ (r + 8) * 2 ^ (56 - r) := by rw [← Nat.pow_add, show r + 8 + (56 - r) = 64 by omega]
  rw [e0, Nat.mul_div_cancel_left _ (Nat.two_pow_pos _), h64, Nat.mul_mod_mul_left]
theorem or_limb (y c d r : Nat) (hr : r ≤ 56) (hc : c < 256) : bits .or .u64 (lb d (y * 2 ^ (64 * d + r + 8))) ((c : Int) * 2 ^ r) = lb d (y * 2 ^ (64 * d + r + 8)) + (c : Int) * 2 ^ r := by
  obtain ⟨z, hz, e⟩ := limb_low y d r hr
  rw [e]
  have hcr : c * 2 ^ r < 2 ^ (r + 8) := by
    rw [Nat.pow_add, Nat.mul_comm]
    exact Nat.mul_lt_mul_of_pos_left (by omega) (Nat.two_pow_pos r)
  have h64 : (18446744073709551616 : Nat) = 2 ^ (r + 8) * 2 ^ (56 - r) := by rw [← Nat.pow_add, show r + 8 + (56 - r) = 64 by omega]
  have h1 : 2 ^ (r + 8) * z < 18446744073709551616 := by rw [h64]; exact Nat.mul_lt_mul_of_pos_left hz (Nat.two_pow_pos _)
  have h2 : c * 2 ^ r < 18446744073709551616 := Nat.lt_of_lt_of_le hcr (by rw [show (18446744073709551616 : Nat) = 2 ^ 64 from rfl]; exact Nat.pow_le_pow_right (by decide) (by omega))
  have h3 := u64_or_nat (2 ^ (r + 8) * z) (c * 2 ^ r) h1 h2
  rw [← Nat.two_pow_add_eq_or_of_lt hcr z] at h3
  have e5 : (c : Int) * 2 ^ r = ((c * 2 ^ r : Nat) : Int) := by simp
  rw [e5, h3]
  simp
theorem natof_long (S T : ByteArray) (hT : 32 < T.size) (w : World)
    (k1 : ∀ W, Calls Tryz.prog 139 #[.string S, .string ⟨#[0]⟩] W fun e w' => e = .returned (.string T) ∧ Below W.heap.size W w') :
    Calls Tryz.prog 106 #[.string S] w fun e w' => e = .returned (.tuple #[N4 0, .bool false]) ∧ Below w.heap.size w w' := by
  have K1 := Lib.hid k1
  have h32 : (32 : Int) < (T.size : Int) := by omega
  have Z0 := Lib.hid ((Row4.new w (.int .u64 0) (.int .u64 0) (.int .u64 0) (.int .u64 0)).alloc (.cells #[.int .u64 0, .int .u64 0, .int .u64 0, .int .u64 0] 28))
  have N0 := Lib.hid (Row4.new' (w.alloc (.cells #[.int .u64 0, .int .u64 0, .int .u64 0, .int .u64 0] 28)) (b := w.heap.size + 1) (by simp) (.int .u64 0) (.int .u64 0) (.int .u64 0) (.int .u64 0))
  have B0 := Lib.hid (bal (bal (Below.refl _ w) (.cells #[.int .u64 0, .int .u64 0, .int .u64 0, .int .u64 0] 28)) (.cells #[.int .u64 0, .int .u64 0, .int .u64 0, .int .u64 0] 28))
  clear k1
  have e0 : N4 0 = .agg #[.int .u64 0, .int .u64 0, .int .u64 0, .int .u64 0] := by unfold N4; rfl
  rw [e0]
  go_enter Tryz.func106, Tryz.ntmps106
  go_wp2_with (go_at_call 139; ((with_reducible refine (K1.out _).mono ?_); rintro e w1 ⟨rfl, hb⟩; have B1 := Lib.hid (btr B0.out hb); have Z1 := Row4.keep hb Z0.out; have N1 := Row4.keep hb N0.out; obtain ⟨n0, n1, n2, n3⟩ := N1.four; obtain ⟨z0, z1, z2, z3⟩ := Z1.four; obtain ⟨zf0, zf1, zf2, zf3⟩ := Z1.free4; have zl := Z1.lt; clear hb))
  obtain ⟨y0, y1, y2, y3⟩ := (Z1.set4 (.int .u64 0) (.int .u64 0) (.int .u64 0) (.int .u64 0)).four
  exact bodyPost_ret (v := .tuple #[.agg #[.int .u64 0, .int .u64 0, .int .u64 0, .int .u64 0], .bool false]) (by simp [results, Tryz.results106, go_sem, y0, y1, y2, y3]) rfl ⟨rfl, bsc4 B1.out (Nat.le_refl _) _ _ _ _⟩
set_option maxRecDepth 100000 in
set_option maxHeartbeats 2000000 in
theorem natof_ok (S : ByteArray) (l : List UInt8) (hl : l.length ≤ 32) (w : World)
    (k1 : ∀ W, Calls Tryz.prog 139 #[.string S, .string ⟨#[0]⟩] W fun e w' => e = .returned (.string (str l)) ∧ Below W.heap.size W w') :
    Calls Tryz.prog 106 #[.string S] w fun e w' => e = .returned (.tuple #[N4 (nb l), .bool true]) ∧ Below w.heap.size w w' := by
  obtain ⟨L, hL⟩ : ∃ L, l.length = L := ⟨_, rfl⟩
  have hTs : (str l).size = L := by rw [str_size]; exact hL
  have HB := Lib.hid (fun (i : Nat) (h : i < (str l).size) => byte_at l i h)
  have HST := Lib.hid (fun (i : Nat) (h : i < l.length) => nx_step h)
  have HFO := Lib.hid (fun (i k : Nat) (h : l.length - i = k + 1) => nx_form l i k h)
  have HALL := Lib.hid (nx_all l)
  have HZ := Lib.hid (nx_zero l)
  have HLL := Lib.hid hL
  obtain ⟨T, hT⟩ : ∃ T, str l = T := ⟨_, rfl⟩
  rw [hT] at k1 hTs
  have HT := Lib.hid hT
  have K1 := Lib.hid k1
  have h32 : ¬ (32 : Int) < (T.size : Int) := by omega
  have hL32 : L ≤ 32 := by omega
  have Z0 := Lib.hid ((Row4.new w (.int .u64 0) (.int .u64 0) (.int .u64 0) (.int .u64 0)).alloc (.cells #[.int .u64 0, .int .u64 0, .int .u64 0, .int .u64 0] 28))
  have N0 := Lib.hid (Row4.new' (w.alloc (.cells #[.int .u64 0, .int .u64 0, .int .u64 0, .int .u64 0] 28)) (b := w.heap.size + 1) (by simp) (.int .u64 0) (.int .u64 0) (.int .u64 0) (.int .u64 0))
  have B0 := Lib.hid (bal (bal (Below.refl _ w) (.cells #[.int .u64 0, .int .u64 0, .int .u64 0, .int .u64 0] 28)) (.cells #[.int .u64 0, .int .u64 0, .int .u64 0, .int .u64 0] 28))
  have HTS := Lib.hid hTs
  have hTi : (T.size : Int) = (L : Int) := by omega
  clear k1 hL hT hl
  rw [show N4 (nb l) = .agg #[.int .u64 (lb 0 (nb l)), .int .u64 (lb 1 (nb l)), .int .u64 (lb 2 (nb l)), .int .u64 (lb 3 (nb l))] from rfl]
  go_enter Tryz.func106, Tryz.ntmps106
  go_wp2_with (go_at_call 139; ((with_reducible refine (K1.out _).mono ?_); rintro e w1 ⟨rfl, hb⟩; have B1 := Lib.hid (btr B0.out hb); have Z1 := Lib.hid (Row4.keep hb Z0.out); have N1 := Lib.hid (Row4.keep hb N0.out); clear hb))
  clear B0 Z0 N0
  go_loopw [16] (fun iv wr => ∃ i : Nat, i ≤ L ∧ iv = .int .i64 i ∧ Hid (Below w.heap.size w wr) ∧ Hid (Row4 wr w.heap.size (.int .u64 0) (.int .u64 0) (.int .u64 0) (.int .u64 0)) ∧ Hid (Row4 wr (w.heap.size + 1) (.int .u64 (lb 0 (nx l i))) (.int .u64 (lb 1 (nx l i))) (.int .u64 (lb 2 (nx l i))) (.int .u64 (lb 3 (nx l i))))) (fun iv _ => L - (intOf iv).toNat)
  case atStart => exact ⟨0, Nat.zero_le _, rfl, B1, Z1, by rw [HZ.out]; exact N1⟩
  case round =>
    obtain ⟨i, hi, rfl, BR, ZR, NR⟩ := hrel
    rename World => wr
    clear B1 Z1 N1
    by_cases hlt : i < L
    · have hil : i < l.length := by rw [HLL.out]; exact hlt
      obtain ⟨k, hk⟩ : ∃ k, L - 1 - i = k := ⟨_, rfl⟩
      have hki : (L : Int) - 1 - (i : Int) = (k : Int) := by omega
      have hiT : i < T.size := by have := HTS.out; omega
      have hiT2 : (i : Int) < (L : Int) := by omega
      obtain ⟨Bq, hBq⟩ : ∃ z : Int, (T[i].toNat : Int) = z := ⟨_, rfl⟩
      have hcl : T[i] = l[i] := by
        have h := HB.out i (by rw [HT.out]; exact hiT)
        have hTo := HT.out
        subst hTo
        exact h
      obtain ⟨c, hcc⟩ : ∃ c, l[i] = c := ⟨_, rfl⟩
      have hBc : Bq = (c.toNat : Int) := by rw [← hBq, hcl, hcc]
      have hc : c.toNat < 256 := c.toNat_lt
      obtain ⟨y, hy⟩ := HFO.out i k (by rw [HLL.out]; omega)
      have hX1 : nx l (i + 1) = y * 2 ^ (8 * k + 8) + c.toNat * 2 ^ (8 * k) := by
        rw [HST.out i hil, hcc, HLL.out, hk, ← hy, Nat.pow_mul]
      have KP := fun W => place_any k (by omega) W
      obtain ⟨r, hr⟩ : ∃ r : Nat, r = 8 * (k % 8) := ⟨_, rfl⟩
      rw [← hr] at KP
      have hr56 : r ≤ 56 := by omega
      have hr2 : (r : Int).toNat = r := Int.toNat_natCast r
      have hr3 : (0 : Int) ≤ (r : Int) := by omega
      have hr4 : r ≤ 64 := by omega
      obtain ⟨p0, p1, p2, p3⟩ := NR.out.four
      obtain ⟨f0, f1, f2, f3⟩ := NR.out.free4
      have pl := NR.out.lt
      rcases (show k / 8 = 0 ∨ k / 8 = 1 ∨ k / 8 = 2 ∨ k / 8 = 3 by omega) with hd | hd | hd | hd
      · have hkk : 8 * k = 64 * 0 + r := by omega
        have hor := or_limb y c.toNat 0 r hr56 hc
        have ht := limb_take y c.toNat 0 r hr56 hc
        rw [← hkk] at hor ht
        rw [← hX1, ← hy] at ht
        rw [← hy, ← hBc] at hor
        have t0 := ht 0 (by decide); have t1 := ht 1 (by decide); have t2 := ht 2 (by decide); have t3 := ht 3 (by decide)
        simp only [if_true, if_false, Nat.reduceEqDiff, ← hBc] at t0 t1 t2 t3
        have KP2 : Hid (∀ W, Calls Tryz.prog 86 #[.int .i64 k] W fun e w' => e = .returned (.tuple #[.int .i64 0, .int .i64 r]) ∧ W = w') := fun W => (KP W).mono fun e w' h => ⟨by rw [hd] at h; exact h.1, h.2.symm⟩
        obtain ⟨V, hV⟩ : ∃ V : Int, Bq * 2 ^ r = V := ⟨_, rfl⟩
        have hV0 : 0 ≤ V := by rw [← hV, hBc]; exact Int.mul_nonneg (by omega) (by exact_mod_cast Nat.zero_le _)
        have hV1 : V < 18446744073709551616 := by
          rw [← hV, hBc]
          have : c.toNat * 2 ^ r < 256 * 2 ^ 56 := Nat.mul_lt_mul_of_lt_of_le hc (Nat.pow_le_pow_right (by decide) hr56) (by decide)
          have e : (c.toNat : Int) * 2 ^ r = ((c.toNat * 2 ^ r : Nat) : Int) := by simp
          rw [e]; omega
        have hVw : IntKind.u64.wrap V = V := by rw [IntKind.wrap_u64]; omega
        rw [hV] at hor
        rw [hV] at t0
        rw [← t0] at hor
        have HFU : Hid (bits .or .u64 (lb 0 (nx l i)) (IntKind.u64.wrap (IntKind.u64.wrap Bq * 2 ^ r)) = lb 0 (nx l (i + 1))) := by
          show _ = _
          rw [show IntKind.u64.wrap Bq = Bq by rw [IntKind.wrap_u64]; omega, hV, hVw]; exact hor
        have HT0 := Lib.hid t0; have HT1 := Lib.hid t1; have HT2 := Lib.hid t2; have HT3 := Lib.hid t3
        clear t0 t1 t2 t3 ht hkk hor hV hV0 hV1 hVw hX1 hy hcc hcl hBc hd hr KP hk
        have BN := Lib.hid (bsc BR.out (p := ⟨w.heap.size + 1, 0, none⟩) (by show w.heap.size ≤ w.heap.size + 1; omega) (.int .u64 (lb 0 (nx l (i + 1)))))
        have ZN := Lib.hid (ZR.out.set (c := w.heap.size + 1) (i := 0) (by omega) (.int .u64 (lb 0 (nx l (i + 1)))))
        have NN := Lib.hid (NR.out.lay0 (.int .u64 (lb 0 (nx l (i + 1)))))
        go_wp2_with (go_at_call 86; ((with_reducible refine (KP2.out _).mono ?_); rintro e w' ⟨rfl, rfl⟩))
        go_region
        all_goals
          rw [HFU.out]
          go_wp2
          go_roundw
          case rel => exact ⟨i + 1, by omega, by go_num, ⟨BN.out.os, BN.out.tape, BN.out.output, BN.out.size, BN.out.block⟩, ZN.out, by rw [HT1.out]; rw [HT2.out]; rw [HT3.out]; exact NN.out⟩
          case measure => simp [intOf]; omega
      · have hkk : 8 * k = 64 * 1 + r := by omega
        have hor := or_limb y c.toNat 1 r hr56 hc
        have ht := limb_take y c.toNat 1 r hr56 hc
        rw [← hkk] at hor ht
        rw [← hX1, ← hy] at ht
        rw [← hy, ← hBc] at hor
        have t0 := ht 0 (by decide); have t1 := ht 1 (by decide); have t2 := ht 2 (by decide); have t3 := ht 3 (by decide)
        simp only [if_true, if_false, Nat.reduceEqDiff, ← hBc] at t0 t1 t2 t3
        have KP2 : Hid (∀ W, Calls Tryz.prog 86 #[.int .i64 k] W fun e w' => e = .returned (.tuple #[.int .i64 1, .int .i64 r]) ∧ W = w') := fun W => (KP W).mono fun e w' h => ⟨by rw [hd] at h; exact h.1, h.2.symm⟩
        obtain ⟨V, hV⟩ : ∃ V : Int, Bq * 2 ^ r = V := ⟨_, rfl⟩
        have hV0 : 0 ≤ V := by rw [← hV, hBc]; exact Int.mul_nonneg (by omega) (by exact_mod_cast Nat.zero_le _)
        have hV1 : V < 18446744073709551616 := by
          rw [← hV, hBc]
          have : c.toNat * 2 ^ r < 256 * 2 ^ 56 := Nat.mul_lt_mul_of_lt_of_le hc (Nat.pow_le_pow_right (by decide) hr56) (by decide)
          have e : (c.toNat : Int) * 2 ^ r = ((c.toNat * 2 ^ r : Nat) : Int) := by simp
          rw [e]; omega
        have hVw : IntKind.u64.wrap V = V := by rw [IntKind.wrap_u64]; omega
        rw [hV] at hor
        rw [hV] at t1
        rw [← t1] at hor
        have HFU : Hid (bits .or .u64 (lb 1 (nx l i)) (IntKind.u64.wrap (IntKind.u64.wrap Bq * 2 ^ r)) = lb 1 (nx l (i + 1))) := by
          show _ = _
          rw [show IntKind.u64.wrap Bq = Bq by rw [IntKind.wrap_u64]; omega, hV, hVw]; exact hor
        have HT0 := Lib.hid t0; have HT1 := Lib.hid t1; have HT2 := Lib.hid t2; have HT3 := Lib.hid t3
        clear t0 t1 t2 t3 ht hkk hor hV hV0 hV1 hVw hX1 hy hcc hcl hBc hd hr KP hk
        have BN := Lib.hid (bsc BR.out (p := ⟨w.heap.size + 1, 1, none⟩) (by show w.heap.size ≤ w.heap.size + 1; omega) (.int .u64 (lb 1 (nx l (i + 1)))))
        have ZN := Lib.hid (ZR.out.set (c := w.heap.size + 1) (i := 1) (by omega) (.int .u64 (lb 1 (nx l (i + 1)))))
        have NN := Lib.hid (NR.out.lay1 (.int .u64 (lb 1 (nx l (i + 1)))))
        go_wp2_with (go_at_call 86; ((with_reducible refine (KP2.out _).mono ?_); rintro e w' ⟨rfl, rfl⟩))
        go_region
        all_goals
          rw [HFU.out]
          go_wp2
          go_roundw
          case rel => exact ⟨i + 1, by omega, by go_num, ⟨BN.out.os, BN.out.tape, BN.out.output, BN.out.size, BN.out.block⟩, ZN.out, by rw [HT0.out]; rw [HT2.out]; rw [HT3.out]; exact NN.out⟩
          case measure => simp [intOf]; omega
      · have hkk : 8 * k = 64 * 2 + r := by omega
        have hor := or_limb y c.toNat 2 r hr56 hc
        have ht := limb_take y c.toNat 2 r hr56 hc
        rw [← hkk] at hor ht
        rw [← hX1, ← hy] at ht
        rw [← hy, ← hBc] at hor
        have t0 := ht 0 (by decide); have t1 := ht 1 (by decide); have t2 := ht 2 (by decide); have t3 := ht 3 (by decide)
        simp only [if_true, if_false, Nat.reduceEqDiff, ← hBc] at t0 t1 t2 t3
        have KP2 : Hid (∀ W, Calls Tryz.prog 86 #[.int .i64 k] W fun e w' => e = .returned (.tuple #[.int .i64 2, .int .i64 r]) ∧ W = w') := fun W => (KP W).mono fun e w' h => ⟨by rw [hd] at h; exact h.1, h.2.symm⟩
        obtain ⟨V, hV⟩ : ∃ V : Int, Bq * 2 ^ r = V := ⟨_, rfl⟩
        have hV0 : 0 ≤ V := by rw [← hV, hBc]; exact Int.mul_nonneg (by omega) (by exact_mod_cast Nat.zero_le _)
        have hV1 : V < 18446744073709551616 := by
          rw [← hV, hBc]
          have : c.toNat * 2 ^ r < 256 * 2 ^ 56 := Nat.mul_lt_mul_of_lt_of_le hc (Nat.pow_le_pow_right (by decide) hr56) (by decide)
          have e : (c.toNat : Int) * 2 ^ r = ((c.toNat * 2 ^ r : Nat) : Int) := by simp
          rw [e]; omega
        have hVw : IntKind.u64.wrap V = V := by rw [IntKind.wrap_u64]; omega
        rw [hV] at hor
        rw [hV] at t2
        rw [← t2] at hor
        have HFU : Hid (bits .or .u64 (lb 2 (nx l i)) (IntKind.u64.wrap (IntKind.u64.wrap Bq * 2 ^ r)) = lb 2 (nx l (i + 1))) := by
          show _ = _
          rw [show IntKind.u64.wrap Bq = Bq by rw [IntKind.wrap_u64]; omega, hV, hVw]; exact hor
        have HT0 := Lib.hid t0; have HT1 := Lib.hid t1; have HT2 := Lib.hid t2; have HT3 := Lib.hid t3
        clear t0 t1 t2 t3 ht hkk hor hV hV0 hV1 hVw hX1 hy hcc hcl hBc hd hr KP hk
        have BN := Lib.hid (bsc BR.out (p := ⟨w.heap.size + 1, 2, none⟩) (by show w.heap.size ≤ w.heap.size + 1; omega) (.int .u64 (lb 2 (nx l (i + 1)))))
        have ZN := Lib.hid (ZR.out.set (c := w.heap.size + 1) (i := 2) (by omega) (.int .u64 (lb 2 (nx l (i + 1)))))
        have NN := Lib.hid (NR.out.lay2 (.int .u64 (lb 2 (nx l (i + 1)))))
        go_wp2_with (go_at_call 86; ((with_reducible refine (KP2.out _).mono ?_); rintro e w' ⟨rfl, rfl⟩))
        go_region
        all_goals
          rw [HFU.out]
          go_wp2
          go_roundw
          case rel => exact ⟨i + 1, by omega, by go_num, ⟨BN.out.os, BN.out.tape, BN.out.output, BN.out.size, BN.out.block⟩, ZN.out, by rw [HT0.out]; rw [HT1.out]; rw [HT3.out]; exact NN.out⟩
          case measure => simp [intOf]; omega
      · have hkk : 8 * k = 64 * 3 + r := by omega
        have hor := or_limb y c.toNat 3 r hr56 hc
        have ht := limb_take y c.toNat 3 r hr56 hc
        rw [← hkk] at hor ht
        rw [← hX1, ← hy] at ht
        rw [← hy, ← hBc] at hor
        have t0 := ht 0 (by decide); have t1 := ht 1 (by decide); have t2 := ht 2 (by decide); have t3 := ht 3 (by decide)
        simp only [if_true, if_false, Nat.reduceEqDiff, ← hBc] at t0 t1 t2 t3
        have KP2 : Hid (∀ W, Calls Tryz.prog 86 #[.int .i64 k] W fun e w' => e = .returned (.tuple #[.int .i64 3, .int .i64 r]) ∧ W = w') := fun W => (KP W).mono fun e w' h => ⟨by rw [hd] at h; exact h.1, h.2.symm⟩
        obtain ⟨V, hV⟩ : ∃ V : Int, Bq * 2 ^ r = V := ⟨_, rfl⟩
        have hV0 : 0 ≤ V := by rw [← hV, hBc]; exact Int.mul_nonneg (by omega) (by exact_mod_cast Nat.zero_le _)
        have hV1 : V < 18446744073709551616 := by
          rw [← hV, hBc]
          have : c.toNat * 2 ^ r < 256 * 2 ^ 56 := Nat.mul_lt_mul_of_lt_of_le hc (Nat.pow_le_pow_right (by decide) hr56) (by decide)
          have e : (c.toNat : Int) * 2 ^ r = ((c.toNat * 2 ^ r : Nat) : Int) := by simp
          rw [e]; omega
        have hVw : IntKind.u64.wrap V = V := by rw [IntKind.wrap_u64]; omega
        rw [hV] at hor
        rw [hV] at t3
        rw [← t3] at hor
        have HFU : Hid (bits .or .u64 (lb 3 (nx l i)) (IntKind.u64.wrap (IntKind.u64.wrap Bq * 2 ^ r)) = lb 3 (nx l (i + 1))) := by
          show _ = _
          rw [show IntKind.u64.wrap Bq = Bq by rw [IntKind.wrap_u64]; omega, hV, hVw]; exact hor
        have HT0 := Lib.hid t0; have HT1 := Lib.hid t1; have HT2 := Lib.hid t2; have HT3 := Lib.hid t3
        clear t0 t1 t2 t3 ht hkk hor hV hV0 hV1 hVw hX1 hy hcc hcl hBc hd hr KP hk
        have BN := Lib.hid (bsc BR.out (p := ⟨w.heap.size + 1, 3, none⟩) (by show w.heap.size ≤ w.heap.size + 1; omega) (.int .u64 (lb 3 (nx l (i + 1)))))
        have ZN := Lib.hid (ZR.out.set (c := w.heap.size + 1) (i := 3) (by omega) (.int .u64 (lb 3 (nx l (i + 1)))))
        have NN := Lib.hid (NR.out.lay3 (.int .u64 (lb 3 (nx l (i + 1)))))
        go_wp2_with (go_at_call 86; ((with_reducible refine (KP2.out _).mono ?_); rintro e w' ⟨rfl, rfl⟩))
        go_region
        all_goals
          rw [HFU.out]
          go_wp2
          go_roundw
          case rel => exact ⟨i + 1, by omega, by go_num, ⟨BN.out.os, BN.out.tape, BN.out.output, BN.out.size, BN.out.block⟩, ZN.out, by rw [HT0.out]; rw [HT1.out]; rw [HT2.out]; exact NN.out⟩
          case measure => simp [intOf]; omega
    · obtain rfl : i = L := by omega
      have hge : ¬ (i : Int) < (i : Int) := by omega
      rw [← HLL.out, HALL.out] at NR
      obtain ⟨p0, p1, p2, p3⟩ := NR.out.four
      obtain ⟨z0, z1, z2, z3⟩ := ZR.out.four
      obtain ⟨zf0, zf1, zf2, zf3⟩ := ZR.out.free4
      have zl := ZR.out.lt
      obtain ⟨y0, y1, y2, y3⟩ := (ZR.out.set4 (.int .u64 (lb 0 (nb l))) (.int .u64 (lb 1 (nb l))) (.int .u64 (lb 2 (nb l))) (.int .u64 (lb 3 (nb l)))).four
      go_wp2
      exact bodyPost_ret (v := .tuple #[.agg #[.int .u64 (lb 0 (nb l)), .int .u64 (lb 1 (nb l)), .int .u64 (lb 2 (nb l)), .int .u64 (lb 3 (nb l))], .bool true]) (by simp [results, Tryz.results106, go_sem, y0, y1, y2, y3]) rfl ⟨rfl, bsc4 BR.out (Nat.le_refl _) _ _ _ _⟩
end Go.Proofs.YtfaaagmjmljhiaaGreatDoor
end
section
namespace Go.Proofs.YtfaaagmjmljhiaaGreatDoor
open Go.RowKit Go.Shelf
open Go.Sort (grow)
set_option linter.unusedVariables false

set_option maxRecDepth 100000 in
set_option maxHeartbeats 1000000 in
theorem tagged_pos (S T : ByteArray) (x : Nat) (b : Nat) (nd dp : Int) (lg un : Bool) (w : World) (h : Cr w b S nd dp lg un)
    (k1 : ∀ W, Calls Tryz.prog 106 #[.string T] W fun e w' => e = .returned (.tuple #[N4 x, .bool true]) ∧ Below W.heap.size W w') :
    Calls Tryz.prog 68 #[.pointer (some ⟨b, 0, none⟩), .int .u64 2, V10 6 false 0 0 0 0 0 T none 0 0 none 0 0] w fun e w' => e = .returned (V10 3 false (lb 0 x) (lb 1 x) (lb 2 x) (lb 3 x) 0 ⟨#[]⟩ none 0 0 none 0 0) ∧ Cr w' b S nd dp lg un ∧ But w.heap.size b w w' := by
  unfold N4 at k1
  have K1 := Lib.hid k1
  generalize lb 0 x = x0 at *
  generalize lb 1 x = x1 at *
  generalize lb 2 x = x2 at *
  generalize lb 3 x = x3 at *
  have KN := Lib.hid (fun (W : World) (h : Cr W b S nd dp lg un) => number_ok false x0 x1 x2 x3 S b nd dp lg un W h)
  have hlt := h.lt
  have hne : w.heap.size + 1 ≠ b := by omega
  have H := Lib.hid h
  have Z0 := Lib.hid (Row10.new' (w.alloc (.cells #[.int .i64 6, .bool false, .int .u64 0, .int .u64 0, .int .u64 0, .int .u64 0, .int .u64 0, .string T, .slice none 0 0, .slice none 0 0] 33)) (c := w.heap.size + 1) (by simp) (.int .i64 0) (.bool false) (.int .u64 0) (.int .u64 0) (.int .u64 0) (.int .u64 0) (.int .u64 0) (.string ⟨#[]⟩) (.slice none 0 0) (.slice none 0 0))
  have C0 := Lib.hid ((h.alloc (.cells #[.int .i64 6, .bool false, .int .u64 0, .int .u64 0, .int .u64 0, .int .u64 0, .int .u64 0, .string T, .slice none 0 0, .slice none 0 0] 33)).alloc (.cells #[.int .i64 0, .bool false, .int .u64 0, .int .u64 0, .int .u64 0, .int .u64 0, .int .u64 0, .string ⟨#[]⟩, .slice none 0 0, .slice none 0 0] 33))
  have B0 := Lib.hid (bal (bal (Below.refl _ w) (.cells #[.int .i64 6, .bool false, .int .u64 0, .int .u64 0, .int .u64 0, .int .u64 0, .int .u64 0, .string T, .slice none 0 0, .slice none 0 0] 33)) (.cells #[.int .i64 0, .bool false, .int .u64 0, .int .u64 0, .int .u64 0, .int .u64 0, .int .u64 0, .string ⟨#[]⟩, .slice none 0 0, .slice none 0 0] 33))
  clear h k1
  go_enter Tryz.func68, Tryz.ntmps68
  go_wp2_with (first
    | (go_at_call 106; ((with_reducible refine (K1.out _).mono ?_); rintro e w1 ⟨rfl, hb⟩; have Z1 := Lib.hid ((Row10.keep hb Z0.out).alloc (.cells #[.int .u64 x0, .int .u64 x1, .int .u64 x2, .int .u64 x3] 28)); have C1 := Lib.hid ((C0.out.keep hb).alloc (.cells #[.int .u64 x0, .int .u64 x1, .int .u64 x2, .int .u64 x3] 28)); have B1 := Lib.hid (But.of (B := b) (bal (btr B0.out hb) (.cells #[.int .u64 x0, .int .u64 x1, .int .u64 x2, .int .u64 x3] 28))); clear hb Z0 C0 B0))
    | (go_at_call 70; ((with_reducible refine (KN.out _ C1.out).mono ?_); rintro e w2 ⟨rfl, hc, hb⟩; have Z2 := Z1.out.but hb hne; have C2 := Lib.hid hc; have B2 := Lib.hid (B1.out.seq hb); obtain ⟨z0, z1, z2, z3, z4, z5, z6, z7, z8, z9⟩ := Z2.parts; have zf := Z2.free; have zl := Z2.lt; clear hc hb Z1 C1 B1)))
  obtain ⟨y0, y1, y2, y3, y4, y5, y6, y7, y8, y9⟩ := (Z2.set10 (.int .i64 3) (.bool false) (.int .u64 x0) (.int .u64 x1) (.int .u64 x2) (.int .u64 x3) (.int .u64 0) (.string ⟨#[]⟩) (.slice none 0 0) (.slice none 0 0)).parts
  exact bodyPost_ret (v := V10 3 false x0 x1 x2 x3 0 ⟨#[]⟩ none 0 0 none 0 0) (by simp [results, Tryz.results68, go_sem, y0, y1, y2, y3, y4, y5, y6, y7, y8, y9]) rfl ⟨rfl, C2.out.set10 hne.symm _ _ _ _ _ _ _ _ _ _, B2.out.stored10 (by omega) _ _ _ _ _ _ _ _ _ _⟩
set_option maxRecDepth 100000 in
set_option maxHeartbeats 1000000 in
theorem tagged_neg (S T : ByteArray) (x : Nat) (hx : x + 1 < 2 ^ 256) (b : Nat) (nd dp : Int) (lg un : Bool) (w : World) (h : Cr w b S nd dp lg un)
    (k1 : ∀ W, Calls Tryz.prog 106 #[.string T] W fun e w' => e = .returned (.tuple #[N4 x, .bool true]) ∧ Below W.heap.size W w') :
    Calls Tryz.prog 68 #[.pointer (some ⟨b, 0, none⟩), .int .u64 3, V10 6 false 0 0 0 0 0 T none 0 0 none 0 0] w fun e w' => e = .returned (V10 3 true (lb 0 (x + 1)) (lb 1 (x + 1)) (lb 2 (x + 1)) (lb 3 (x + 1)) 0 ⟨#[]⟩ none 0 0 none 0 0) ∧ Cr w' b S nd dp lg un ∧ But w.heap.size b w w' := by
  have k2 := fun W => below_ok x hx W
  unfold N4 at *
  have K1 := Lib.hid k1
  have K2 := Lib.hid k2
  generalize lb 0 x = x0 at *
  generalize lb 1 x = x1 at *
  generalize lb 2 x = x2 at *
  generalize lb 3 x = x3 at *
  generalize lb 0 (x + 1) = u0 at *
  generalize lb 1 (x + 1) = u1 at *
  generalize lb 2 (x + 1) = u2 at *
  generalize lb 3 (x + 1) = u3 at *
  have KN := Lib.hid (fun (W : World) (h : Cr W b S nd dp lg un) => number_ok true u0 u1 u2 u3 S b nd dp lg un W h)
  have hlt := h.lt
  have hne : w.heap.size + 1 ≠ b := by omega
  have Z0 := Lib.hid (Row10.new' (w.alloc (.cells #[.int .i64 6, .bool false, .int .u64 0, .int .u64 0, .int .u64 0, .int .u64 0, .int .u64 0, .string T, .slice none 0 0, .slice none 0 0] 33)) (c := w.heap.size + 1) (by simp) (.int .i64 0) (.bool false) (.int .u64 0) (.int .u64 0) (.int .u64 0) (.int .u64 0) (.int .u64 0) (.string ⟨#[]⟩) (.slice none 0 0) (.slice none 0 0))
  have C0 := Lib.hid ((h.alloc (.cells #[.int .i64 6, .bool false, .int .u64 0, .int .u64 0, .int .u64 0, .int .u64 0, .int .u64 0, .string T, .slice none 0 0, .slice none 0 0] 33)).alloc (.cells #[.int .i64 0, .bool false, .int .u64 0, .int .u64 0, .int .u64 0, .int .u64 0, .int .u64 0, .string ⟨#[]⟩, .slice none 0 0, .slice none 0 0] 33))
  have B0 := Lib.hid (bal (bal (Below.refl _ w) (.cells #[.int .i64 6, .bool false, .int .u64 0, .int .u64 0, .int .u64 0, .int .u64 0, .int .u64 0, .string T, .slice none 0 0, .slice none 0 0] 33)) (.cells #[.int .i64 0, .bool false, .int .u64 0, .int .u64 0, .int .u64 0, .int .u64 0, .int .u64 0, .string ⟨#[]⟩, .slice none 0 0, .slice none 0 0] 33))
  clear h k1 k2
  go_enter Tryz.func68, Tryz.ntmps68
  go_wp2_with (first
    | (go_at_call 106; ((with_reducible refine (K1.out _).mono ?_); rintro e w1 ⟨rfl, hb⟩; have Z1 := Lib.hid ((Row10.keep hb Z0.out).alloc (.cells #[.int .u64 x0, .int .u64 x1, .int .u64 x2, .int .u64 x3] 28)); have C1 := Lib.hid ((C0.out.keep hb).alloc (.cells #[.int .u64 x0, .int .u64 x1, .int .u64 x2, .int .u64 x3] 28)); have B1 := Lib.hid (bal (btr B0.out hb) (.cells #[.int .u64 x0, .int .u64 x1, .int .u64 x2, .int .u64 x3] 28)); clear hb Z0 C0 B0))
    | (go_at_call 71; ((with_reducible refine (K2.out _).mono ?_); rintro e w3 ⟨rfl, hb⟩; have Z1 := Lib.hid (Row10.keep hb Z1.out); have C1 := Lib.hid (C1.out.keep hb); have B1 := Lib.hid (But.of (B := b) (btr B1.out hb)); clear hb))
    | (go_at_call 70; ((with_reducible refine (KN.out _ C1.out).mono ?_); rintro e w2 ⟨rfl, hc, hb⟩; have Z2 := Z1.out.but hb hne; have C2 := Lib.hid hc; have B2 := Lib.hid (B1.out.seq hb); obtain ⟨z0, z1, z2, z3, z4, z5, z6, z7, z8, z9⟩ := Z2.parts; have zf := Z2.free; have zl := Z2.lt; clear hc hb Z1 C1 B1)))
  obtain ⟨y0, y1, y2, y3, y4, y5, y6, y7, y8, y9⟩ := (Z2.set10 (.int .i64 3) (.bool true) (.int .u64 u0) (.int .u64 u1) (.int .u64 u2) (.int .u64 u3) (.int .u64 0) (.string ⟨#[]⟩) (.slice none 0 0) (.slice none 0 0)).parts
  exact bodyPost_ret (v := V10 3 true u0 u1 u2 u3 0 ⟨#[]⟩ none 0 0 none 0 0) (by simp [results, Tryz.results68, go_sem, y0, y1, y2, y3, y4, y5, y6, y7, y8, y9]) rfl ⟨rfl, C2.out.set10 hne.symm _ _ _ _ _ _ _ _ _ _, B2.out.stored10 (by omega) _ _ _ _ _ _ _ _ _ _⟩
end Go.Proofs.YtfaaagmjmljhiaaGreatDoor
end
section
namespace Go.Proofs.YtfaaagmjmljhiaaGreatDoor
open Go.RowKit Go.Shelf
open Go.Sort (grow)
set_option linter.unusedVariables false

theorem Hb.row {W : World} {c d : Nat} {m a n : Int} {v0 v1 v2 v3 v4 v5 v6 v7 v8 v9 : Value} (h : Hb W c m a n) (k : Row10 W d v0 v1 v2 v3 v4 v5 v6 v7 v8 v9) : c ≠ d := by
  intro e
  subst e
  unfold Hb at h
  unfold Row10 at k
  rw [h] at k
  simp at k
/-- A float's item: K1 tells the word in 64 bits, K2 its value. -/
theorem simple_double (m n : Nat) (kd : Int) (g : Bool) (x0 x1 x2 x3 bi : Int) (S : ByteArray) (b : Nat) (nd dp : Int) (lg un : Bool) (w : World) (h : Cr w b S nd dp lg un)
    (k2 : ∀ W, Below w.heap.size w W → Calls Tryz.prog 119 #[.int .u64 n] W fun e w' => e = .returned (V10 kd g x0 x1 x2 x3 bi ⟨#[]⟩ none 0 0 none 0 0) ∧ Below W.heap.size W w') :
    Calls Tryz.prog 75 #[.pointer (some ⟨b, 0, none⟩), HdV m 27 n] w fun e w' => e = .returned (.tuple #[V10 kd g x0 x1 x2 x3 bi ⟨#[]⟩ none 0 0 none 0 0, .bool true]) ∧ Cr w' b S nd dp lg un ∧ But w.heap.size b w w' := by
  have K2 := Lib.hid k2
  have hlt := h.lt
  have hne : w.heap.size + 1 ≠ b := by omega
  have Z0 := Lib.hid (Row10.new' (w.alloc (.cells #[.int .i64 m, .int .i64 27, .int .u64 n] 69)) (c := w.heap.size + 1) (by simp) (.int .i64 0) (.bool false) (.int .u64 0) (.int .u64 0) (.int .u64 0) (.int .u64 0) (.int .u64 0) (.string ⟨#[]⟩) (.slice none 0 0) (.slice none 0 0))
  have C0 := Lib.hid ((h.alloc (.cells #[.int .i64 m, .int .i64 27, .int .u64 n] 69)).alloc (.cells #[.int .i64 0, .bool false, .int .u64 0, .int .u64 0, .int .u64 0, .int .u64 0, .int .u64 0, .string ⟨#[]⟩, .slice none 0 0, .slice none 0 0] 33))
  have B0 := Lib.hid (bal (bal (Below.refl _ w) (.cells #[.int .i64 m, .int .i64 27, .int .u64 n] 69)) (.cells #[.int .i64 0, .bool false, .int .u64 0, .int .u64 0, .int .u64 0, .int .u64 0, .int .u64 0, .string ⟨#[]⟩, .slice none 0 0, .slice none 0 0] 33))
  clear h k2
  go_enter Tryz.func75, Tryz.ntmps75
  go_wp2_with (go_at_call 119; ((with_reducible refine (K2.out _ B0.out).mono ?_); rintro e w2 ⟨rfl, hb⟩; have Z2 := Row10.keep hb Z0.out; have C2 := Lib.hid (C0.out.keep hb); have B2 := Lib.hid (But.of (B := b) (btr B0.out hb)); obtain ⟨z0, z1, z2, z3, z4, z5, z6, z7, z8, z9⟩ := Z2.parts; have zf := Z2.free; have zl := Z2.lt; clear hb Z0 C0 B0))
  obtain ⟨y0, y1, y2, y3, y4, y5, y6, y7, y8, y9⟩ := (Z2.set10 (.int .i64 kd) (.bool g) (.int .u64 x0) (.int .u64 x1) (.int .u64 x2) (.int .u64 x3) (.int .u64 bi) (.string ⟨#[]⟩) (.slice none 0 0) (.slice none 0 0)).parts
  exact bodyPost_ret (v := .tuple #[V10 kd g x0 x1 x2 x3 bi ⟨#[]⟩ none 0 0 none 0 0, .bool true]) (by simp [results, Tryz.results75, go_sem, y0, y1, y2, y3, y4, y5, y6, y7, y8, y9]) rfl ⟨rfl, C2.out.set10 hne.symm _ _ _ _ _ _ _ _ _ _, B2.out.stored10 (by omega) _ _ _ _ _ _ _ _ _ _⟩
theorem simple_single (m n u : Nat) (hn : n < 4294967296) (kd : Int) (g : Bool) (x0 x1 x2 x3 bi : Int) (S : ByteArray) (b : Nat) (nd dp : Int) (lg un : Bool) (w : World) (h : Cr w b S nd dp lg un)
    (k1 : ∀ W, Calls Tryz.prog 92 #[.int .u32 n] W fun e w' => e = .returned (.int .u64 u) ∧ Below W.heap.size W w')
    (k2 : ∀ W, Below w.heap.size w W → Calls Tryz.prog 119 #[.int .u64 u] W fun e w' => e = .returned (V10 kd g x0 x1 x2 x3 bi ⟨#[]⟩ none 0 0 none 0 0) ∧ Below W.heap.size W w') :
    Calls Tryz.prog 75 #[.pointer (some ⟨b, 0, none⟩), HdV m 26 n] w fun e w' => e = .returned (.tuple #[V10 kd g x0 x1 x2 x3 bi ⟨#[]⟩ none 0 0 none 0 0, .bool true]) ∧ Cr w' b S nd dp lg un ∧ But w.heap.size b w w' := by
  have K1 := Lib.hid k1
  have K2 := Lib.hid k2
  have hlt := h.lt
  have hni : (n : Int) < 4294967296 := by omega
  have hne : w.heap.size + 1 ≠ b := by omega
  have Z0 := Lib.hid (Row10.new' (w.alloc (.cells #[.int .i64 m, .int .i64 26, .int .u64 n] 69)) (c := w.heap.size + 1) (by simp) (.int .i64 0) (.bool false) (.int .u64 0) (.int .u64 0) (.int .u64 0) (.int .u64 0) (.int .u64 0) (.string ⟨#[]⟩) (.slice none 0 0) (.slice none 0 0))
  have C0 := Lib.hid ((h.alloc (.cells #[.int .i64 m, .int .i64 26, .int .u64 n] 69)).alloc (.cells #[.int .i64 0, .bool false, .int .u64 0, .int .u64 0, .int .u64 0, .int .u64 0, .int .u64 0, .string ⟨#[]⟩, .slice none 0 0, .slice none 0 0] 33))
  have B0 := Lib.hid (bal (bal (Below.refl _ w) (.cells #[.int .i64 m, .int .i64 26, .int .u64 n] 69)) (.cells #[.int .i64 0, .bool false, .int .u64 0, .int .u64 0, .int .u64 0, .int .u64 0, .int .u64 0, .string ⟨#[]⟩, .slice none 0 0, .slice none 0 0] 33))
  clear h k1 k2
  go_enter Tryz.func75, Tryz.ntmps75
  go_wp2_with (first
    | (go_at_call 92; ((with_reducible refine (K1.out _).mono ?_); rintro e w1 ⟨rfl, hb⟩; have Z1 := Lib.hid (Row10.keep hb Z0.out); have C1 := Lib.hid (C0.out.keep hb); have B1 := Lib.hid (btr B0.out hb); clear hb Z0 C0 B0))
    | (go_at_call 119; ((with_reducible refine (K2.out _ B1.out).mono ?_); rintro e w2 ⟨rfl, hb⟩; have Z2 := Row10.keep hb Z1.out; have C2 := Lib.hid (C1.out.keep hb); have B2 := Lib.hid (But.of (B := b) (btr B1.out hb)); obtain ⟨z0, z1, z2, z3, z4, z5, z6, z7, z8, z9⟩ := Z2.parts; have zf := Z2.free; have zl := Z2.lt; clear hb Z1 C1 B1)))
  obtain ⟨y0, y1, y2, y3, y4, y5, y6, y7, y8, y9⟩ := (Z2.set10 (.int .i64 kd) (.bool g) (.int .u64 x0) (.int .u64 x1) (.int .u64 x2) (.int .u64 x3) (.int .u64 bi) (.string ⟨#[]⟩) (.slice none 0 0) (.slice none 0 0)).parts
  exact bodyPost_ret (v := .tuple #[V10 kd g x0 x1 x2 x3 bi ⟨#[]⟩ none 0 0 none 0 0, .bool true]) (by simp [results, Tryz.results75, go_sem, y0, y1, y2, y3, y4, y5, y6, y7, y8, y9]) rfl ⟨rfl, C2.out.set10 hne.symm _ _ _ _ _ _ _ _ _ _, B2.out.stored10 (by omega) _ _ _ _ _ _ _ _ _ _⟩
theorem simple_half (m n u : Nat) (hn : n < 65536) (kd : Int) (g : Bool) (x0 x1 x2 x3 bi : Int) (S : ByteArray) (b : Nat) (nd dp : Int) (lg un : Bool) (w : World) (h : Cr w b S nd dp lg un)
    (k1 : ∀ W, Calls Tryz.prog 89 #[.int .u16 n] W fun e w' => e = .returned (.int .u64 u) ∧ Below W.heap.size W w')
    (k2 : ∀ W, Below w.heap.size w W → Calls Tryz.prog 119 #[.int .u64 u] W fun e w' => e = .returned (V10 kd g x0 x1 x2 x3 bi ⟨#[]⟩ none 0 0 none 0 0) ∧ Below W.heap.size W w') :
    Calls Tryz.prog 75 #[.pointer (some ⟨b, 0, none⟩), HdV m 25 n] w fun e w' => e = .returned (.tuple #[V10 kd g x0 x1 x2 x3 bi ⟨#[]⟩ none 0 0 none 0 0, .bool true]) ∧ Cr w' b S nd dp lg un ∧ But w.heap.size b w w' := by
  have K1 := Lib.hid k1
  have K2 := Lib.hid k2
  have hlt := h.lt
  have hni : (n : Int) < 65536 := by omega
  have hne : w.heap.size + 1 ≠ b := by omega
  have Z0 := Lib.hid (Row10.new' (w.alloc (.cells #[.int .i64 m, .int .i64 25, .int .u64 n] 69)) (c := w.heap.size + 1) (by simp) (.int .i64 0) (.bool false) (.int .u64 0) (.int .u64 0) (.int .u64 0) (.int .u64 0) (.int .u64 0) (.string ⟨#[]⟩) (.slice none 0 0) (.slice none 0 0))
  have C0 := Lib.hid ((h.alloc (.cells #[.int .i64 m, .int .i64 25, .int .u64 n] 69)).alloc (.cells #[.int .i64 0, .bool false, .int .u64 0, .int .u64 0, .int .u64 0, .int .u64 0, .int .u64 0, .string ⟨#[]⟩, .slice none 0 0, .slice none 0 0] 33))
  have B0 := Lib.hid (bal (bal (Below.refl _ w) (.cells #[.int .i64 m, .int .i64 25, .int .u64 n] 69)) (.cells #[.int .i64 0, .bool false, .int .u64 0, .int .u64 0, .int .u64 0, .int .u64 0, .int .u64 0, .string ⟨#[]⟩, .slice none 0 0, .slice none 0 0] 33))
  clear h k1 k2
  go_enter Tryz.func75, Tryz.ntmps75
  go_wp2_with (first
    | (go_at_call 89; ((with_reducible refine (K1.out _).mono ?_); rintro e w1 ⟨rfl, hb⟩; have Z1 := Lib.hid (Row10.keep hb Z0.out); have C1 := Lib.hid (C0.out.keep hb); have B1 := Lib.hid (btr B0.out hb); clear hb Z0 C0 B0))
    | (go_at_call 119; ((with_reducible refine (K2.out _ B1.out).mono ?_); rintro e w2 ⟨rfl, hb⟩; have Z2 := Row10.keep hb Z1.out; have C2 := Lib.hid (C1.out.keep hb); have B2 := Lib.hid (But.of (B := b) (btr B1.out hb)); obtain ⟨z0, z1, z2, z3, z4, z5, z6, z7, z8, z9⟩ := Z2.parts; have zf := Z2.free; have zl := Z2.lt; clear hb Z1 C1 B1)))
  obtain ⟨y0, y1, y2, y3, y4, y5, y6, y7, y8, y9⟩ := (Z2.set10 (.int .i64 kd) (.bool g) (.int .u64 x0) (.int .u64 x1) (.int .u64 x2) (.int .u64 x3) (.int .u64 bi) (.string ⟨#[]⟩) (.slice none 0 0) (.slice none 0 0)).parts
  exact bodyPost_ret (v := .tuple #[V10 kd g x0 x1 x2 x3 bi ⟨#[]⟩ none 0 0 none 0 0, .bool true]) (by simp [results, Tryz.results75, go_sem, y0, y1, y2, y3, y4, y5, y6, y7, y8, y9]) rfl ⟨rfl, C2.out.set10 hne.symm _ _ _ _ _ _ _ _ _ _, B2.out.stored10 (by omega) _ _ _ _ _ _ _ _ _ _⟩
end Go.Proofs.YtfaaagmjmljhiaaGreatDoor
end
section
namespace Go.Proofs.YtfaaagmjmljhiaaGreatDoor
open Go.RowKit Go.Shelf
open Go.Sort (grow)
set_option linter.unusedVariables false

set_option maxRecDepth 100000 in
set_option maxHeartbeats 1000000 in
theorem simple_lost (m a n : Nat) (ha : a ≠ 20 ∧ a ≠ 21 ∧ a ≠ 22 ∧ a ≠ 25 ∧ a ≠ 26 ∧ a ≠ 27) (h24 : a ≠ 24) (h31 : a ≠ 31) (S : ByteArray) (b : Nat) (nd dp : Int) (lg un : Bool) (w : World) (h : Cr w b S nd dp lg un) :
    Calls Tryz.prog 75 #[.pointer (some ⟨b, 0, none⟩), HdV m a n] w fun e w' => e = .returned (.tuple #[NullV, .bool true]) ∧ Cr w' b S nd dp lg true ∧ But w.heap.size b w w' := by
  obtain ⟨a1, a2, a3, a4, a5, a6⟩ := ha
  have e1 : ((a : Int) == 20) = false := by rw [beq_eq_false_iff_ne]; omega
  have e2 : ((a : Int) == 21) = false := by rw [beq_eq_false_iff_ne]; omega
  have e3 : ((a : Int) == 22) = false := by rw [beq_eq_false_iff_ne]; omega
  have e4 : ((a : Int) == 25) = false := by rw [beq_eq_false_iff_ne]; omega
  have e5 : ((a : Int) == 26) = false := by rw [beq_eq_false_iff_ne]; omega
  have e6 : ((a : Int) == 27) = false := by rw [beq_eq_false_iff_ne]; omega
  have e7 : ((a : Int) != 24) = true := by rw [bne_iff_ne]; omega
  have k1 := fun W => isbreak_any m a (n : Int) W
  rw [decide_eq_false (fun hc : a = 31 ∧ m = 7 => h31 hc.1)] at k1
  have K1 := Lib.hid k1
  have HL := Lib.hid (fun (W : World) (h : Cr W b S nd dp lg un) => lost_any S b nd dp lg un W h)
  have hlt := h.lt
  have hne : w.heap.size + 1 ≠ b := by omega
  have hnq : w.heap.size ≠ b := by omega
  have hw := h.alloc (.cells #[.int .i64 m, .int .i64 a, .int .u64 n] 69)
  clear a1 a2 a3 a4 a5 a6 k1 h24 h31
  go_enter Tryz.func75, Tryz.ntmps75
  go_upto_region 14 with (fail)
  go_name_world w1 hw1
  have B1 : But w.heap.size b w w1 := by rw [← hw1]; exact But.of (bal (bal (Below.refl _ _) _) _)
  have C1 : Cr w1 b S nd dp lg un := by rw [← hw1]; exact hw.alloc _
  have Q1 : Hb w1 w.heap.size m a n := by rw [← hw1]; exact (Hb.new _ _ _ _).alloc _
  have Z1 : Row10 w1 (w.heap.size + 1) (.int .i64 0) (.bool false) (.int .u64 0) (.int .u64 0) (.int .u64 0) (.int .u64 0) (.int .u64 0) (.string ⟨#[]⟩) (.slice none 0 0) (.slice none 0 0) := by rw [← hw1]; refine Row10.new' _ ?_ _ _ _ _ _ _ _ _ _ _; simp
  clear hw1 h hw
  obtain ⟨q0, q1, q2⟩ := Q1.parts
  go_cut [5] (fun s5 wx => s5 = .bool true ∧ Hid (Cr wx b S nd dp lg true) ∧ Hid (But w.heap.size b w wx) ∧ Hid (Row10 wx (w.heap.size + 1) (.int .i64 1) (.bool false) (.int .u64 0) (.int .u64 0) (.int .u64 0) (.int .u64 0) (.int .u64 0) (.string ⟨#[]⟩) (.slice none 0 0) (.slice none 0 0)))
  case first =>
    first | (go_region_with (first
      | (go_at_call 105; (with_reducible refine (HL.out _ (by repeat (first | (with_reducible assumption) | (with_reducible refine Cr.drew ?_) | (with_reducible refine Cr.alloc ?_ _)))).mono ?_); rintro e wl ⟨rfl, hcl, hbl⟩; have Ql : Hb wl w.heap.size m a n := Hb.but (by repeat (first | (with_reducible assumption) | (with_reducible refine Hb.drew ?_) | (with_reducible refine Hb.alloc ?_ _))) hbl hnq; have Zl : Row10 wl (w.heap.size + 1) (.int .i64 0) (.bool false) (.int .u64 0) (.int .u64 0) (.int .u64 0) (.int .u64 0) (.int .u64 0) (.string ⟨#[]⟩) (.slice none 0 0) (.slice none 0 0) := Row10.but (by repeat (first | (with_reducible assumption) | (with_reducible refine Row10.drew ?_) | (with_reducible refine Row10.alloc ?_ _))) hbl hne; have Bl : But w.heap.size b w wl := But.seq (by repeat (first | (with_reducible assumption) | (with_reducible refine But.drew ?_))) hbl; obtain ⟨l0, l1, l2⟩ := Ql.parts; obtain ⟨zl0, zl1, zl2, zl3, zl4, zl5, zl6, zl7, zl8, zl9⟩ := Zl.parts; have zlf := Zl.free; have zll := Zl.lt)
      | (go_at_call 120; (with_reducible refine (K1.out _).mono ?_); rintro e wb ⟨rfl, hbb⟩; have Qb : Hb wb w.heap.size m a n := Hb.keep hbb (by repeat (first | (with_reducible assumption) | (with_reducible refine Hb.drew ?_) | (with_reducible refine Hb.alloc ?_ _))); have Zb : Row10 wb (w.heap.size + 1) (.int .i64 0) (.bool false) (.int .u64 0) (.int .u64 0) (.int .u64 0) (.int .u64 0) (.int .u64 0) (.string ⟨#[]⟩) (.slice none 0 0) (.slice none 0 0) := Row10.keep hbb (by repeat (first | (with_reducible assumption) | (with_reducible refine Row10.drew ?_) | (with_reducible refine Row10.alloc ?_ _))); have Bb : But w.heap.size b w wb := But.seq (by repeat (first | (with_reducible assumption) | (with_reducible refine But.drew ?_))) (But.of hbb); (first | (have Cb : Cr wb b S nd dp lg true := Cr.keep (by assumption) hbb) | (have Cb : Cr wb b S nd dp lg un := Cr.keep (by repeat (first | (with_reducible assumption) | (with_reducible refine Cr.drew ?_) | (with_reducible refine Cr.alloc ?_ _))) hbb)); obtain ⟨b0, b1, b2⟩ := Qb.parts; obtain ⟨zb0, zb1, zb2, zb3, zb4, zb5, zb6, zb7, zb8, zb9⟩ := Zb.parts; have zbf := Zb.free; have zbl := Zb.lt))) | fail
    all_goals
      go_wp2_with fail
      go_meet
      have hwp : w.heap.size ≤ w.heap.size + 1 := by omega
      refine ⟨rfl, ?_, ?_, ?_⟩
      · first
          | (with_reducible exact Lib.hid (Cr.set10 Cb hne.symm _ _ _ _ _ _ _ _ _ _))
          | (with_reducible exact Lib.hid (Cr.set10 hcl hne.symm _ _ _ _ _ _ _ _ _ _))
      · first
          | (with_reducible exact Lib.hid (But.stored10 Bb hwp _ _ _ _ _ _ _ _ _ _))
          | (with_reducible exact Lib.hid (But.stored10 Bl hwp _ _ _ _ _ _ _ _ _ _))
      · first
          | (with_reducible exact Lib.hid (Row10.set10 Zb _ _ _ _ _ _ _ _ _ _))
          | (with_reducible exact Lib.hid (Row10.set10 Zl _ _ _ _ _ _ _ _ _ _))
  case rest =>
    obtain ⟨rfl, CX, BX, ZX⟩ := hcut
    obtain ⟨y0, y1, y2, y3, y4, y5, y6, y7, y8, y9⟩ := ZX.out.parts
    go_wp2
    exact bodyPost_ret (v := .tuple #[NullV, .bool true]) (by simp [results, Tryz.results75, go_sem, y0, y1, y2, y3, y4, y5, y6, y7, y8, y9]) rfl ⟨rfl, CX.out, BX.out⟩
end Go.Proofs.YtfaaagmjmljhiaaGreatDoor
end
