/-
  slices.Equal at lists of spans, the reference's Same: the contracts.
-/
import Derived.Test.YtjlgiejggcbgbaaGreatDoorSpEq
import Derived.Deep.LoopGhost
namespace Go.Proofs.YtjlgiejggcbgbaaGreatDoor
open Go.RowKit Go.Shelf
open Go.Sort (grow)
attribute [local go_sem ↓] eql_nat neq_nat eql_int5 neq_int5 neq_span

set_option maxRecDepth 100000 in
set_option maxHeartbeats 4000000 in
theorem sequal (la lb' : Option Addr) (lca lcb : Nat) (l m : List RS) (ba oa bb ob : Nat) (w : World) (hK : Ls w la l ba oa) (hM : Ls w lb' m bb ob) :
    Calls Tryz.prog 35 #[.slice la l.length lca, .slice lb' m.length lcb] w fun e w' => e = .returned (.bool (eqL l m)) ∧ Below w.heap.size w w' := by
  have hn := hK.len
  have hmn := hM.len
  by_cases hl : l.length = m.length
  · have HK := Lib.hid hK; have HM := Lib.hid hM; have HL := Lib.hid hl
    clear hK hM
    have e0 : ((l.length : Int) != (m.length : Int)) = false := by rw [hl]; simp
    rw [← hl]
    rw [← hl] at e0
    clear hl hmn
    go_enter Tryz.func35, Tryz.ntmps35
    go_wp2
    go_loopw [5, 13] (fun _ i wr => ∃ k : Nat, k ≤ l.length ∧ i = .int .i64 k ∧ Hid (Below w.heap.size w wr) ∧ Hid (eqL (l.drop k) (m.drop k) = eqL l m)) (fun _ i _ => l.length - (intOf i).toNat)
    case atStart => exact ⟨0, Nat.zero_le _, rfl, Below.refl _ _, (show Hid _ from by show _ = _; simp)⟩
    case round =>
      obtain ⟨k, hk, rfl, BW, AN⟩ := hrel
      by_cases hlt : k < l.length
      · obtain ⟨r, hr, _⟩ := span_at hlt
        obtain ⟨s, hs, _⟩ := span_at (show k < m.length by rw [← HL.out]; exact hlt)
        have cr := (HK.out.cells k r hr).keep BW.out
        have cs := (HM.out.cells k s hs).keep BW.out
        obtain rfl : la = some ⟨ba, oa, none⟩ := HK.out.la (by omega)
        obtain rfl : lb' = some ⟨bb, ob, none⟩ := HM.out.la (by have := HL.out; omega)
        have HNX := Lib.hid (eqL_at hr hs)
        have hq : ∃ q, eqR r s = q := ⟨_, rfl⟩
        obtain ⟨q, hq⟩ := hq
        have HQ := Lib.hid hq
        unfold eqR at hq
        obtain ⟨rhl, rhh, rgl, rxl, rgh, rxh⟩ := r
        obtain ⟨shl, shh, sgl, sxl, sgh, sxh⟩ := s
        simp only at hq
        obtain ⟨c0, c1, c2, c3, c4, c5, c6, c7, c8, c9, c10, c11⟩ := cr.twelve
        obtain ⟨d0, d1, d2, d3, d4, d5, d6, d7, d8, d9, d10, d11⟩ := cs.twelve
        have xc0 := cell_regrown c0; have xd0 := cell_regrown d0
        have xc1 := cell_regrown c1; have xd1 := cell_regrown d1
        have xc2 := cell_regrown c2; have xd2 := cell_regrown d2
        have xc3 := cell_regrown c3; have xd3 := cell_regrown d3
        have xc4 := cell_regrown c4; have xd4 := cell_regrown d4
        have xc5 := cell_regrown c5; have xd5 := cell_regrown d5
        have xc6 := cell_regrown c6; have xd6 := cell_regrown d6
        have xc7 := cell_regrown c7; have xd7 := cell_regrown d7
        have xc8 := cell_regrown c8; have xd8 := cell_regrown d8
        have xc9 := cell_regrown c9; have xd9 := cell_regrown d9
        have xc10 := cell_regrown c10; have xd10 := cell_regrown d10
        have xc11 := cell_regrown c11; have xd11 := cell_regrown d11
        clear cr cs hr hs c0 c1 c2 c3 c4 c5 c6 c7 c8 c9 c10 c11 d0 d1 d2 d3 d4 d5 d6 d7 d8 d9 d10 d11
        cases q
        all_goals
          go_upto_region 6 with (fail)
          refine wp_region_quiet_below (by kernel_rfl) (by kernel_rfl) ?_
          repeat (go_big_quiet_step (fail))
          refine wpQuiet_nil ?_
          intro _ hw'
          obtain ⟨⟨dq, osq⟩, hw''⟩ := hw'
          subst hw''
          have hb := Lib.hid (below_regrown wr dq osq)
          generalize grow (redrawn wr dq) osq = w8 at *
          clear xc0 xc1 xc2 xc3 xc4 xc5 xc6 xc7 xc8 xc9 xc10 xc11 xd0 xd1 xd2 xd3 xd4 xd5 xd6 xd7 xd8 xd9 xd10 xd11 hq
          go_wp2
        · go_ret
          exact ⟨ret_bool9 (by rw [← AN.out, HNX.out, HQ.out]; rfl), btr BW.out hb.out⟩
        · go_roundw
          case rel => exact ⟨k + 1, by omega, by go_num, btr BW.out hb.out, (show Hid _ from by show _ = _; rw [← AN.out, HNX.out, HQ.out]; simp)⟩
          case measure => simp [intOf]; omega
      · have hge : ¬ (k : Int) < (l.length : Int) := by omega
        have HF : Hid (eqL l m = true) := by
          have := AN.out
          rw [List.drop_eq_nil_of_le (by omega), List.drop_eq_nil_of_le (by have := HL.out; omega)] at this
          show _ = _
          rw [← this]; rfl
        go_wp2
        go_ret
        exact ⟨ret_bool9 HF.out.symm, BW.out⟩
  · have e0 : ((l.length : Int) != (m.length : Int)) = true := by simp; omega
    have HE := Lib.hid (eqL_len hl)
    clear hK hM hl
    go_enter Tryz.func35, Tryz.ntmps35
    go_wp2
    go_ret
    exact ⟨ret_bool9 HE.out.symm, Below.refl _ _⟩

end Go.Proofs.YtjlgiejggcbgbaaGreatDoor
