/-
  value.Nodes, the reference's Depth and Nodes: the contracts, for every value that lies in memory (less than a million nodes).
-/
import Derived.Test.YtocffoemimghhaaGreatDoorGX
namespace Go.Proofs.YtocffoemimghhaaGreatDoor
open Go.RowKit Go.Shelf

theorem rdepth_core (kd : Int) (g : Bool) (x0 x1 x2 x3 b : Int) (s : ByteArray) (la : Option Addr) (lc : Nat) (ka : Option Addr) (m kc : Nat) (kids : List VT) (bb off D : Nat) (w : World) (hK : Kids w la kids bb off)
    (hD : D = 1 + dTo kids kids.length) (hle : ∀ k, dTo kids k < D) (hd : D ≤ 1000000)
    (ih : ∀ t ∈ kids, ∀ W, t.In W → Calls Tryz.prog 33 #[t.val] W fun e w' => e = .returned (.int .i64 (t.depth : Nat)) ∧ Below W.heap.size W w') :
    Calls Tryz.prog 33 #[V10 kd g x0 x1 x2 x3 b s la kids.length lc ka m kc] w fun e w' => e = .returned (.int .i64 (D : Nat)) ∧ Below w.heap.size w w' := by
  have hn := hK.len
  have HK := Lib.hid hK; have HI := Lib.hid ih; have HD := Lib.hid hD; have HL := Lib.hid hle
  clear hK ih hD hle
  go_enter Tryz.func33, Tryz.ntmps33
  go_wp2
  go_loopw [3, 4] (fun gr i wr => ∃ k : Nat, k ≤ kids.length ∧ i = .int .i64 k ∧ gr = .int .i64 (dTo kids k : Nat) ∧ Hid (Below w.heap.size w wr ∧ Row10 wr w.heap.size (.int .i64 kd) (.bool g) (.int .u64 x0) (.int .u64 x1) (.int .u64 x2) (.int .u64 x3) (.int .u64 b) (.string s) (.slice la kids.length lc) (.slice ka m kc))) (fun _ i _ => kids.length - (intOf i).toNat)
  case atStart => exact ⟨0, Nat.zero_le _, rfl, by rw [dTo_zero]; rfl, (show Hid _ from ⟨bal (Below.refl _ _) _, Row10.new _ _ _ _ _ _ _ _ _ _ _⟩)⟩
  case round =>
    obtain ⟨k, hk, rfl, rfl, BW⟩ := hrel
    obtain ⟨p0, p1, p2, p3, p4, p5, p6, p7, p8, p9⟩ := BW.out.2.parts
    clear p0 p1 p2 p3 p4 p5 p6 p7 p9
    by_cases hlt : k < kids.length
    · obtain ⟨t, ht, hm⟩ := kid_at hlt
      have hr := (HK.out.cells k t ht).keep BW.out.1
      obtain rfl : la = some ⟨bb, off, none⟩ := HK.out.la (by omega)
      have hti := (HK.out.ins k t ht).keep BW.out.1
      have hcall := HI.out t hm
      have hnx := dTo_next ht
      have hl0 := HL.out k
      have hl1 := HL.out (k + 1)
      skip
      obtain ⟨o2, l2⟩ := t
      obtain ⟨kd2, g2, x2, b2, s2, la2, lc2, ka2, kc2, ks2⟩ := o2
      simp only [VT.val, VT.cells, VT.o_mk, VT.kids_mk] at hcall
      obtain ⟨c0, c1, c2, c3, c4, c5, c6, c7, c8, c9⟩ := hr.ten
      clear hr
      have HTI := Lib.hid hti; have HCALL := Lib.hid hcall; have HNX := Lib.hid hnx; have HHT := Lib.hid ht
      clear hti hcall hnx ht
      go_wp2_with fail
      ((with_reducible refine (HCALL.out _ HTI.out).mono ?_); rintro e w1 ⟨rfl, hb1⟩)
      have HB1 := Lib.hid hb1
      clear hb1
      go_wp2
      go_roundw
      case rel => exact ⟨k + 1, by omega, by go_num, by rw [HNX.out]; exact congrArg (Value.int .i64) (by omega), (show Hid _ from ⟨btr BW.out.1 HB1.out, BW.out.2.keep HB1.out⟩)⟩
      case measure => simp [intOf]; omega
    · have hge : ¬ (k : Int) < (kids.length : Int) := by omega
      have hkk : k = kids.length := by omega
      have hfin : 0 ≤ (dTo kids k : Int) ∧ (dTo kids k : Int) ≤ 1000000 := by have := HL.out k; omega
      have HF : Hid (((dTo kids k : Nat) : Int) + 1 = (D : Nat)) := by show _ = _; have := HD.out; rw [this, hkk]; omega
      clear hkk
      go_wp2
      go_ret
      exact ⟨ret_int HF.out, BW.out.1⟩
/-- entrepot/entrepotref6.Depth, of every value that lies in memory. -/
theorem rdepth : ∀ (T : VT), T.depth ≤ 1000000 → ∀ w, T.In w → Calls Tryz.prog 33 #[T.val] w fun e w' => e = .returned (.int .i64 (T.depth : Nat)) ∧ Below w.heap.size w w' := by
  intro T
  induction T using VT.ind with
  | h o kids ih =>
    intro hd w hI
    obtain ⟨bb, off, hK⟩ := hI.kids'
    exact rdepth_core _ _ _ _ _ _ _ _ _ _ _ _ _ kids bb off _ w hK (dTo_all o kids) (dTo_le o kids) hd (fun t ht W hW => ih t ht (by have := VT.depth_kid (o := o) ht; omega) W hW)

theorem rnodes_core (kd : Int) (g : Bool) (x0 x1 x2 x3 b : Int) (s : ByteArray) (la : Option Addr) (lc : Nat) (ka : Option Addr) (m kc : Nat) (kids : List VT) (bb off D : Nat) (w : World) (hK : Kids w la kids bb off)
    (hD : D = 1 + nTo kids kids.length) (hle : ∀ k, nTo kids k < D) (hd : D ≤ 1000000)
    (ih : ∀ t ∈ kids, ∀ W, t.In W → Calls Tryz.prog 34 #[t.val] W fun e w' => e = .returned (.int .i64 (t.nodes : Nat)) ∧ Below W.heap.size W w') :
    Calls Tryz.prog 34 #[V10 kd g x0 x1 x2 x3 b s la kids.length lc ka m kc] w fun e w' => e = .returned (.int .i64 (D : Nat)) ∧ Below w.heap.size w w' := by
  have hn := hK.len
  have HK := Lib.hid hK; have HI := Lib.hid ih; have HD := Lib.hid hD; have HL := Lib.hid hle
  clear hK ih hD hle
  go_enter Tryz.func34, Tryz.ntmps34
  go_wp2
  go_loopw [3, 4] (fun gr i wr => ∃ k : Nat, k ≤ kids.length ∧ i = .int .i64 k ∧ gr = .int .i64 ((1 : Int) + (nTo kids k : Nat)) ∧ Hid (Below w.heap.size w wr ∧ Row10 wr w.heap.size (.int .i64 kd) (.bool g) (.int .u64 x0) (.int .u64 x1) (.int .u64 x2) (.int .u64 x3) (.int .u64 b) (.string s) (.slice la kids.length lc) (.slice ka m kc))) (fun _ i _ => kids.length - (intOf i).toNat)
  case atStart => exact ⟨0, Nat.zero_le _, rfl, by rw [nTo_zero]; rfl, (show Hid _ from ⟨bal (Below.refl _ _) _, Row10.new _ _ _ _ _ _ _ _ _ _ _⟩)⟩
  case round =>
    obtain ⟨k, hk, rfl, rfl, BW⟩ := hrel
    obtain ⟨p0, p1, p2, p3, p4, p5, p6, p7, p8, p9⟩ := BW.out.2.parts
    clear p0 p1 p2 p3 p4 p5 p6 p7 p9
    by_cases hlt : k < kids.length
    · obtain ⟨t, ht, hm⟩ := kid_at hlt
      have hr := (HK.out.cells k t ht).keep BW.out.1
      obtain rfl : la = some ⟨bb, off, none⟩ := HK.out.la (by omega)
      have hti := (HK.out.ins k t ht).keep BW.out.1
      have hcall := HI.out t hm
      have hnx := nTo_next ht
      have hl0 := HL.out k
      have hl1 := HL.out (k + 1)
      have hsum : (1 : Int) + (nTo kids k : Nat) + (t.nodes : Nat) ≤ 1000000 ∧ (0 : Int) ≤ (nTo kids k : Nat) ∧ (0 : Int) ≤ (t.nodes : Nat) := by omega
      obtain ⟨o2, l2⟩ := t
      obtain ⟨kd2, g2, x2, b2, s2, la2, lc2, ka2, kc2, ks2⟩ := o2
      simp only [VT.val, VT.cells, VT.o_mk, VT.kids_mk] at hcall
      obtain ⟨c0, c1, c2, c3, c4, c5, c6, c7, c8, c9⟩ := hr.ten
      clear hr
      have HTI := Lib.hid hti; have HCALL := Lib.hid hcall; have HNX := Lib.hid hnx; have HHT := Lib.hid ht
      clear hti hcall hnx ht
      go_wp2_with fail
      ((with_reducible refine (HCALL.out _ HTI.out).mono ?_); rintro e w1 ⟨rfl, hb1⟩)
      have HB1 := Lib.hid hb1
      clear hb1
      go_wp2
      go_roundw
      case rel => exact ⟨k + 1, by omega, by go_num, by rw [HNX.out]; exact congrArg (Value.int .i64) (by omega), (show Hid _ from ⟨btr BW.out.1 HB1.out, BW.out.2.keep HB1.out⟩)⟩
      case measure => simp [intOf]; omega
    · have hge : ¬ (k : Int) < (kids.length : Int) := by omega
      have hkk : k = kids.length := by omega
      have hfin : 0 ≤ (nTo kids k : Int) ∧ (nTo kids k : Int) ≤ 1000000 := by have := HL.out k; omega
      have HF : Hid ((1 : Int) + (nTo kids k : Nat) = (D : Nat)) := by show _ = _; have := HD.out; rw [this, hkk]; omega
      clear hkk
      go_wp2
      go_ret
      exact ⟨ret_int HF.out, BW.out.1⟩
/-- entrepot/entrepotref6.Nodes, of every value that lies in memory. -/
theorem rnodes : ∀ (T : VT), T.nodes ≤ 1000000 → ∀ w, T.In w → Calls Tryz.prog 34 #[T.val] w fun e w' => e = .returned (.int .i64 (T.nodes : Nat)) ∧ Below w.heap.size w w' := by
  intro T
  induction T using VT.ind with
  | h o kids ih =>
    intro hd w hI
    obtain ⟨bb, off, hK⟩ := hI.kids'
    exact rnodes_core _ _ _ _ _ _ _ _ _ _ _ _ _ kids bb off _ w hK (nTo_all o kids) (nTo_le o kids) hd (fun t ht W hW => ih t ht (by have := VT.nodes_kid (o := o) ht; omega) W hW)
end Go.Proofs.YtocffoemimghhaaGreatDoor
