/-
  entrepotref6.own of a map: the contract.
-/
import Derived.Test.YtjdogiehcgfmjaaGreatDoorR6Own
namespace Go.Proofs.YtjdogiehcgfmjaaGreatDoor
open Go.RowKit Go.Shelf
open Go.Sort (grow)
attribute [local go_sem ↓] eql_nat neq_nat eql_int5 neq_int5

theorem rvalid_below (s : ByteArray) (hz : s.size ≤ 140737488351232) (q : Bool) (hq : uval s.data.toList = q) (w : World) :
    Calls Tryz.prog 170 #[.string s] w fun e w' => e = .returned (.bool q) ∧ Below w.heap.size w w' := by
  refine (rvalid_any s hz w).mono ?_
  rintro e w' ⟨rfl, rfl⟩
  exact ⟨ret_bool hq, Below.refl _ _⟩

set_option maxRecDepth 200000 in
set_option maxHeartbeats 8000000 in
theorem rown_k8 (g : Bool) (x0 x1 x2 x3 b : Int) (s : ByteArray) (la : Option Addr) (n lc : Nat) (ka : Option Addr) (kc : Nat) (keys : List ByteArray) (kb koff : Nat) (w : World) (hK : KeysL w ka keys kb koff) (hz : ∀ s ∈ keys, s.size ≤ 140737488351232) :
    Calls Tryz.prog 98 #[V10 8 g x0 x1 x2 x3 b s la n lc ka keys.length kc] w fun e w' => e = .returned (.bool (namesB keys && (eq5 g x0 x1 x2 x3 false 0 0 0 0 && ((b == 0) && (s.toList.isEmpty && ((keys.length : Int) == (n : Int))))))) ∧ Below w.heap.size w w' := by
  have hn := hK.len
  have HK := Lib.hid hK; have HS := Lib.hid hz
  clear hK hz
  go_enter Tryz.func98, Tryz.ntmps98
  go_wp2
  go_loopw [4] (fun i wr => ∃ k : Nat, k ≤ keys.length ∧ i = .int .i64 k ∧ Hid (Below w.heap.size w wr ∧ Row10 wr w.heap.size (.int .i64 8) (.bool g) (.int .u64 x0) (.int .u64 x1) (.int .u64 x2) (.int .u64 x3) (.int .u64 b) (.string s) (.slice la n lc) (.slice ka keys.length kc)) ∧ Hid (∀ j, j < k → keyOk keys j = true)) (fun i _ => keys.length - (intOf i).toNat)
  case atStart => exact ⟨0, Nat.zero_le _, rfl, (show Hid _ from ⟨bal (Below.refl _ _) _, Row10.new _ _ _ _ _ _ _ _ _ _ _⟩), (show Hid _ from fun j hj => absurd hj (Nat.not_lt_zero _))⟩
  case round =>
    obtain ⟨k, hk, rfl, BW, AN⟩ := hrel
    obtain ⟨p0, p1, p2, p3, p4, p5, p6, p7, p8, p9⟩ := BW.out.2.parts
    by_cases hlt : k < keys.length
    · obtain ⟨t, ht, hm⟩ := key_at hlt
      have hr := cell_keep BW.out.1 (HK.out.cells k t ht)
      have hlt2 : (k : Int) < (keys.length : Int) := by omega
      obtain rfl : ka = some ⟨kb, koff, none⟩ := HK.out.ka (by omega)
      have r9 := cell_regrown p9
      have rk := cell_regrown hr
      clear p0 p1 p2 p3 p4 p5 p6 p7 p8
      cases hq : uval t.data.toList with
      | false =>
        have HF := Lib.hid (namesB_not (keyOk_bad ht hq) hlt)
        have cq0 := fun (d : Nat) (os : Array Obj) => Calls.regrown_of (w := wr) (d := d) (os := os) (rvalid_below t (HS.out t hm) false hq _)
        clear hq ht hm
        go_upto_region 20 with (fail)
        refine wp_region_quiet_below (by kernel_rfl) (by kernel_rfl) ?_
        repeat (first | go_big_quiet_step ((with_reducible exact cq0 _ _)) | quiet_step (with_reducible exact cq0 _ _))
        refine wpQuiet_nil ?_
        intro _ hw'
        obtain ⟨⟨dq, osq⟩, hw''⟩ := hw'
        subst hw''
        clear r9 rk cq0
        have hb := Lib.hid (btr BW.out.1 (below_regrown wr dq osq))
        generalize grow (redrawn wr dq) osq = w2 at *
        go_wp2
        go_ret
        exact ⟨ret_bool (by rw [HF.out]; rfl), hb.out⟩
      | true =>
        have cq0 := fun (d : Nat) (os : Array Obj) => Calls.regrown_of (w := wr) (d := d) (os := os) (rvalid_below t (HS.out t hm) true hq _)
        cases k with
        | zero =>
          have HO := Lib.hid (keyOk_zero ht hq)
          rw [Nat.add_zero] at rk
          clear hq ht hm
          go_upto_region 20 with (fail)
          refine wp_region_quiet_below (by kernel_rfl) (by kernel_rfl) ?_
          repeat (first | go_big_quiet_step ((with_reducible exact cq0 _ _)) | quiet_step (with_reducible exact cq0 _ _))
          refine wpQuiet_nil ?_
          intro _ hw'
          obtain ⟨⟨dq, osq⟩, hw''⟩ := hw'
          subst hw''
          have hb := below_regrown wr dq osq
          clear r9 rk cq0
          have BV : Hid (Below w.heap.size w (grow (redrawn wr dq) osq) ∧ Row10 (grow (redrawn wr dq) osq) w.heap.size (.int .i64 8) (.bool g) (.int .u64 x0) (.int .u64 x1) (.int .u64 x2) (.int .u64 x3) (.int .u64 b) (.string s) (.slice la n lc) (.slice (some ⟨kb, koff, none⟩) keys.length kc)) := ⟨btr BW.out.1 hb, BW.out.2.keep hb⟩
          generalize grow (redrawn wr dq) osq = w2 at *
          clear hb
          go_wp2
          go_roundw
          case rel => exact ⟨1, by omega, rfl, BV, all_one HO.out⟩
          case measure => simp [intOf]; omega
        | succ j =>
          obtain ⟨r, hr0, _⟩ := key_at (show j < keys.length by omega)
          have rj := cell_regrown (cell_keep BW.out.1 (HK.out.cells j r hr0))
          have hj0 : decide ((0 : Int) < (j : Int) + 1) = true := decide_eq_true (by omega)
          have hj1 : (j : Int) < (keys.length : Int) := by omega
          cases hl : leS t r with
          | true =>
            have HF := Lib.hid (namesB_not (keyOk_succ ht hr0 hq hl) hlt)
            unfold leS at hl
            clear hq ht hm hr0
            go_upto_region 20 with (fail)
            refine wp_region_quiet_below (by kernel_rfl) (by kernel_rfl) ?_
            repeat (first | go_big_quiet_step ((with_reducible exact cq0 _ _)) | quiet_step (with_reducible exact cq0 _ _))
            refine wpQuiet_nil ?_
            intro _ hw'
            obtain ⟨⟨dq, osq⟩, hw''⟩ := hw'
            subst hw''
            have hb := below_regrown wr dq osq
            clear r9 rk rj cq0
            have BV : Hid (Below w.heap.size w (grow (redrawn wr dq) osq) ∧ Row10 (grow (redrawn wr dq) osq) w.heap.size (.int .i64 8) (.bool g) (.int .u64 x0) (.int .u64 x1) (.int .u64 x2) (.int .u64 x3) (.int .u64 b) (.string s) (.slice la n lc) (.slice (some ⟨kb, koff, none⟩) keys.length kc)) := ⟨btr BW.out.1 hb, BW.out.2.keep hb⟩
            generalize grow (redrawn wr dq) osq = w2 at *
            clear hb
            go_wp2
            go_ret
            exact ⟨ret_bool (by rw [HF.out]; rfl), BV.out.1⟩
          | false =>
            have HO := Lib.hid (keyOk_succ ht hr0 hq hl)
            unfold leS at hl
            clear hq ht hm hr0
            go_upto_region 20 with (fail)
            refine wp_region_quiet_below (by kernel_rfl) (by kernel_rfl) ?_
            repeat (first | go_big_quiet_step ((with_reducible exact cq0 _ _)) | quiet_step (with_reducible exact cq0 _ _))
            refine wpQuiet_nil ?_
            intro _ hw'
            obtain ⟨⟨dq, osq⟩, hw''⟩ := hw'
            subst hw''
            have hb := below_regrown wr dq osq
            clear r9 rk rj cq0
            have BV : Hid (Below w.heap.size w (grow (redrawn wr dq) osq) ∧ Row10 (grow (redrawn wr dq) osq) w.heap.size (.int .i64 8) (.bool g) (.int .u64 x0) (.int .u64 x1) (.int .u64 x2) (.int .u64 x3) (.int .u64 b) (.string s) (.slice la n lc) (.slice (some ⟨kb, koff, none⟩) keys.length kc)) := ⟨btr BW.out.1 hb, BW.out.2.keep hb⟩
            generalize grow (redrawn wr dq) osq = w2 at *
            clear hb
            go_wp2
            go_roundw
            case rel => exact ⟨j + 1 + 1, by omega, by go_num, BV, (show Hid _ from fun i hi => by
                by_cases e : i = j + 1
                · subst e; exact HO.out
                · exact AN.out i (by omega))⟩
            case measure => simp [intOf]; omega
    · have hge : ¬ (k : Int) < (keys.length : Int) := by omega
      have HF := Lib.hid (namesB_all AN.out (by omega))
      clear AN
      go_wp2
      all_goals
        go_ret
        refine eq_ret rfl ?_ BW.out.1
        have hF := HF.out
        clear p0 p1 p2 p3 p4 p5 p6 p7 p8 p9
        first | rfl | (simp_all; done) | (simp_all; intros; omega)
end Go.Proofs.YtjdogiehcgfmjaaGreatDoor
