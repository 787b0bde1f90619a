/-
  value.Depth, value.Nodes: the contracts, for every value that lies in memory (less than a million nodes).
-/
import Derived.Test.YtjdogiehcgfmjaaDoorValSpec
import Derived.Deep.LoopGhost
namespace Go.Proofs.YtjdogiehcgfmjaaDoor
open Go.RowKit Go.Shelf

/-- The ten cells of an element, loaded. -/
theorem load10 {W : World} {b p : Nat} {T : VT} (h : Cells10 W b p T) : Sem.run Tryd.prog (loadCellsFrom ⟨b, p, none⟩ 0 10 #[]) W = .ok T.cells.toArray W := by
  have := run_loadCells_list (P := Tryd.prog) (w := W) ⟨b, p, none⟩ T.cells (fun j u hu => by
    have := h j u hu
    rwa [Go.WideShapes.add_plain])
  rw [T.cells_length] at this
  simpa [loadCells] using this
theorem ret_int {k : IntKind} {a b : Int} (h : a = b) : Ending.returned (.int k a) = .returned (.int k b) := by rw [h]
theorem kid_at {kids : List VT} {k : Nat} (h : k < kids.length) : ∃ t, kids[k]? = some t ∧ t ∈ kids := ⟨kids[k], List.getElem?_eq_getElem h, List.getElem_mem h⟩


/-- What a walk over a value's list asks of the list. -/
structure Kids (w : World) (la : Option Addr) (kids : List VT) (bb off : Nat) : Prop where
  la : 0 < kids.length → la = some ⟨bb, off, none⟩
  cells : ∀ (i : Nat) (t : VT), kids[i]? = some t → Cells10 w bb (off + i * 10) t
  ins : ∀ (i : Nat) (t : VT), kids[i]? = some t → t.In w
  len : kids.length ≤ 9223372036854775807
theorem Kids.keep {w w' : World} {la : Option Addr} {kids : List VT} {bb off : Nat} (h : Kids w la kids bb off) (hb : Below w.heap.size w w') : Kids w' la kids bb off :=
  ⟨h.la, fun i t hi => (h.cells i t hi).keep hb, fun i t hi => (h.ins i t hi).keep hb, h.len⟩
theorem VT.In.kids' {w : World} {o : Own} {l : List VT} (h : (VT.mk o l).In w) : ∃ bb off, Kids w o.la l bb off := by
  obtain ⟨bb, off, h1, h2⟩ := h.hl
  obtain ⟨_, _, _, _, ⟨h3, h4⟩, _, _⟩ := h.wf
  unfold maxLen at h4
  exact ⟨bb, off, h1, h2, fun i t hi => h.kid (T := VT.mk o l) hi, by simp only [VT.o_mk, VT.kids_mk] at h3 h4; omega⟩

theorem vdepth_core (kd : Int) (g : Bool) (x0 x1 x2 x3 b : Int) (s : ByteArray) (la : Option Addr) (lc : Nat) (ka : Option Addr) (m kc : Nat) (kids : List VT) (bb off D : Nat) (w : World) (hK : Kids w la kids bb off)
    (hD : D = 1 + dTo kids kids.length) (hle : ∀ k, dTo kids k < D) (hd : D ≤ 1000000)
    (ih : ∀ t ∈ kids, ∀ W, t.In W → Calls Tryd.prog 6 #[t.val] W fun e w' => e = .returned (.int .i64 (t.depth : Nat)) ∧ Below W.heap.size W w') :
    Calls Tryd.prog 6 #[V10 kd g x0 x1 x2 x3 b s la kids.length lc ka m kc] w fun e w' => e = .returned (.int .i64 (D : Nat)) ∧ Below w.heap.size w w' := by
  have hn := hK.len
  have HK := Lib.hid hK; have HI := Lib.hid ih; have HD := Lib.hid hD; have HL := Lib.hid hle
  clear hK ih hD hle
  go_enter Tryd.func6, Tryd.ntmps6
  go_wp2
  go_loopw [3, 9] (fun gr i wr => ∃ k : Nat, k ≤ kids.length ∧ i = .int .i64 k ∧ gr = .int .i64 (dTo kids k : Nat) ∧ Hid (Below w.heap.size w wr)) (fun _ i _ => kids.length - (intOf i).toNat)
  case atStart => exact ⟨0, Nat.zero_le _, rfl, by rw [dTo_zero]; rfl, bal (Below.refl _ _) _⟩
  case round =>
    obtain ⟨k, hk, rfl, rfl, BW⟩ := hrel
    by_cases hlt : k < kids.length
    · obtain ⟨t, ht, hm⟩ := kid_at hlt
      have hr := (HK.out.cells k t ht).keep BW.out
      obtain rfl : la = some ⟨bb, off, none⟩ := HK.out.la (by omega)
      have hti := (HK.out.ins k t ht).keep BW.out
      have hcall := HI.out t hm
      have hnx := dTo_next ht
      have hl0 := HL.out k
      have hl1 := HL.out (k + 1)
      obtain ⟨o2, l2⟩ := t
      obtain ⟨kd2, g2, x2, b2, s2, la2, lc2, ka2, kc2, ks2⟩ := o2
      simp only [VT.val, VT.cells, VT.o_mk, VT.kids_mk] at hcall
      obtain ⟨c0, c1, c2, c3, c4, c5, c6, c7, c8, c9⟩ := hr.ten
      clear hr
      have HTI := Lib.hid hti; have HCALL := Lib.hid hcall; have HNX := Lib.hid hnx; have HHT := Lib.hid ht
      clear hti hcall hnx ht
      go_wp2_with fail
      ((with_reducible refine (HCALL.out _ (HTI.out.keep (bal (Below.refl _ _) _))).mono ?_); rintro e w1 ⟨rfl, hb1⟩)
      have HB1 := Lib.hid hb1
      clear hb1
      go_wp2
      go_roundw
      case rel => exact ⟨k + 1, by omega, by go_num, by rw [HNX.out]; exact congrArg (Value.int .i64) (by omega), btr (bal BW.out _) HB1.out⟩
      case measure => simp [intOf]; omega
    · have hge : ¬ (k : Int) < (kids.length : Int) := by omega
      have hkk : k = kids.length := by omega
      have hfin : 0 ≤ (dTo kids k : Int) ∧ (dTo kids k : Int) ≤ 1000000 := by have := HL.out k; omega
      have HF : Hid ((1 : Int) + (dTo kids k : Nat) = (D : Nat)) := by show _ = _; have := HD.out; rw [this, hkk]; omega
      clear hkk
      go_wp2
      go_ret
      exact ⟨ret_int HF.out, BW.out⟩
/-- value.Depth, of every value that lies in memory. -/
theorem vdepth : ∀ (T : VT), T.depth ≤ 1000000 → ∀ w, T.In w → Calls Tryd.prog 6 #[T.val] w fun e w' => e = .returned (.int .i64 (T.depth : Nat)) ∧ Below w.heap.size w w' := by
  intro T
  induction T using VT.ind with
  | h o kids ih =>
    intro hd w hI
    obtain ⟨bb, off, hK⟩ := hI.kids'
    exact vdepth_core _ _ _ _ _ _ _ _ _ _ _ _ _ kids bb off _ w hK (dTo_all o kids) (dTo_le o kids) hd (fun t ht W hW => ih t ht (by have := VT.depth_kid (o := o) ht; omega) W hW)
end Go.Proofs.YtjdogiehcgfmjaaDoor
