/-
  SpE SpF SpG, one behind the other: a claim holds at most 60 files.
-/
import Derived.Test.YtjlgiejggcbgbaaGreatDoorSpD
import Derived.BigRegion
import Derived.BigQuiet
import Derived.RegionTactic
section
namespace Go.Proofs.YtjlgiejggcbgbaaGreatDoor
open Go.RowKit Go.Shelf
open Go.Sort (grow)
attribute [local go_sem ↓] eql_nat neq_nat eql_int5 neq_int5

theorem own_put9 {W : World} {base g n cap m : Nat} {e : TypeId} {sz : Nat} {xs : List Value} (h : W.ownsRow base e sz (.slice (some ⟨g, 0, none⟩) n cap) m xs) (i : Nat) (u : Value) :
    (W.setCell ⟨g, i, none⟩ u).ownsRow base e sz (.slice (some ⟨g, 0, none⟩) n cap) m (xs.set i u) := by
  obtain ⟨h1, h2⟩ := h
  refine ⟨by rw [List.length_set]; exact h1, ?_⟩
  rcases h2 with ⟨h3, _⟩ | ⟨g', cap', cur, h3, h4, h5, h6, h7, h8, h9⟩
  · cases h3
  · cases h3
    refine .inr ⟨g, cap, cur.setIfInBounds i u, rfl, h4, heap_setCell_same W g i _ _ _ h5, h6, h7, by simp [h8], ?_⟩
    rw [Array.toList_setIfInBounds, List.take_set, h9]
theorem own_free9 {W : World} {base g n cap m : Nat} {e : TypeId} {sz : Nat} {xs : List Value} (h : W.ownsRow base e sz (.slice (some ⟨g, 0, none⟩) n cap) m xs) (i : Nat) : W.frozen? ⟨g, i, none⟩ = false := by
  rcases h.2 with ⟨h3, _⟩ | ⟨g', cap', cur, h3, h4, h5, _⟩
  · cases h3
  · cases h3
    exact frozen_of_row W g i _ _ h5
theorem own_at9 {W : World} {base g n cap m : Nat} {e : TypeId} {sz : Nat} {xs : List Value} (h : W.ownsRow base e sz (.slice (some ⟨g, 0, none⟩) n cap) m xs) {i : Nat} {u : Value} (hu : xs[i]? = some u) : W.cell? ⟨g, i, none⟩ = some u := by
  have := World.ownsRow.cells h (g := g) rfl i u hu
  rwa [addr_add9, Nat.zero_add] at this
/-- The six stores that end a span. -/
theorem cs_end {l : List RS} {hl gl : Bool} {xl : Nat} {gh0 : Bool} {xh0 : Nat} {hh0 : Bool} (gh : Bool) (xh : Nat) :
    ((((((csS (l ++ [⟨hl, hh0, gl, xl, gh0, xh0⟩])).set (l.length * 12 + 7) (.bool gh)).set (l.length * 12 + 8) (.int .u64 (lb 0 xh))).set (l.length * 12 + 9) (.int .u64 (lb 1 xh))).set (l.length * 12 + 10) (.int .u64 (lb 2 xh))).set (l.length * 12 + 11) (.int .u64 (lb 3 xh))).set (l.length * 12 + 1) (.bool true) = csS (l ++ [⟨hl, true, gl, xl, gh, xh⟩]) := by
  have hn : (csS l).length = l.length * 12 := csS_len l
  have key : ∀ (j : Nat) (ys : List Value) (u : Value), (csS l ++ ys).set (l.length * 12 + j) u = csS l ++ ys.set j u := by
    intro j ys u
    rw [List.set_append_right _ _ (by omega), hn, Nat.add_sub_cancel_left]
  rw [csS_app, csS_app, key, key, key, key, key, key]
  rfl
theorem info_span : (Tryz.prog.info? 37).map (fun i => (i.zero, i.size, i.bytes)) = some (some (V12 false false false 0 0 0 0 false 0 0 0 0), 12, 88) := by kernel_rfl
theorem und_spans : Tryz.prog.underlying 22 = some (.slice 37) := by kernel_rfl
theorem Bs.snoc {W : World} {base : Nat} {v : Value} {l : List RS} {r : RS} {news : List Value} (h : W.ownsRow base 37 12 v (l.length + 1) (csS l ++ news)) (hn : r.cells = news) : Bs W base v (l ++ [r]) := by
  subst hn
  unfold Bs
  rw [csS_app, List.length_append, show csS [r] = r.cells by simp [csS]]
  exact h

set_option maxRecDepth 100000 in
set_option maxHeartbeats 4000000 in
theorem turn_end (base : Nat) (g cap : Nat) (l : List RS) (hl gl : Bool) (xl : Nat) (gh0 : Bool) (xh0 : Nat) (hh0 : Bool) (y0 y1 y2 y3 : Int) (gy : Bool) (gh : Bool) (xh : Nat) (w : World) (hO : Bs w base (.slice (some ⟨g, 0, none⟩) (l.length + 1) cap) (l ++ [⟨hl, hh0, gl, xl, gh0, xh0⟩])) (hln : l.length ≤ 100000)
    (k1 : ∀ W, Calls Tryz.prog 81 #[.agg #[.bool gy, .int .u64 y0, .int .u64 y1, .int .u64 y2, .int .u64 y3]] W fun e w' => e = .returned (.tuple #[.agg #[.bool gh, .int .u64 (lb 0 xh), .int .u64 (lb 1 xh), .int .u64 (lb 2 xh), .int .u64 (lb 3 xh)], .bool true]) ∧ Below W.heap.size W w') :
    Calls Tryz.prog 62 #[.slice (some ⟨g, 0, none⟩) (l.length + 1) cap, .agg #[.bool gy, .int .u64 y0, .int .u64 y1, .int .u64 y2, .int .u64 y3], .bool false] w fun e w' => e = .returned (.slice (some ⟨g, 0, none⟩) (l.length + 1) cap) ∧ Bs w' base (.slice (some ⟨g, 0, none⟩) (l.length + 1) cap) (l ++ [⟨hl, true, gl, xl, gh, xh⟩]) ∧ w.grownBy w' (some g) := by
  have K1 := Lib.hid k1; clear k1
  have hgl := (own_base9 hO g rfl).2
  have hne : ∀ i, i < 12 → (csS (l ++ [⟨hl, hh0, gl, xl, gh0, xh0⟩] : List RS))[l.length * 12 + i]? = (RS.cells ⟨hl, hh0, gl, xl, gh0, xh0⟩)[i]? := by
    intro i hi
    rw [csS_app, List.getElem?_append_right (by rw [csS_len]; omega), csS_len, Nat.add_sub_cancel_left]
    rfl
  have HO := Lib.hid hO
  have HNE := Lib.hid hne
  clear hne hO
  go_enter Tryz.func62, Tryz.ntmps62
  go_wp2_with fail
  ((with_reducible refine (K1.out _).mono ?_); rintro e w1 ⟨rfl, hb⟩)
  have hb1 := btr (bal (Below.refl w.heap.size w) _) hb
  have O1 := Lib.hid (own_keep9 HO.out hb1)
  have HB1 := Lib.hid hb1
  have hsz1 := hb1.size
  have c1 := own_at9 O1.out ((HNE.out 1 (by omega)).trans rfl)
  have c7 := own_at9 O1.out ((HNE.out 7 (by omega)).trans rfl)
  have c8 := own_at9 O1.out ((HNE.out 8 (by omega)).trans rfl)
  have c9 := own_at9 O1.out ((HNE.out 9 (by omega)).trans rfl)
  have c10 := own_at9 O1.out ((HNE.out 10 (by omega)).trans rfl)
  have c11 := own_at9 O1.out ((HNE.out 11 (by omega)).trans rfl)
  have f1 := own_free9 O1.out (l.length * 12 + 1)
  have f7 := own_free9 O1.out (l.length * 12 + 7)
  have f8 := own_free9 O1.out (l.length * 12 + 8)
  have f9 := own_free9 O1.out (l.length * 12 + 9)
  have f10 := own_free9 O1.out (l.length * 12 + 10)
  have f11 := own_free9 O1.out (l.length * 12 + 11)
  clear hb hb1
  go_wp2
  go_ret
  refine ⟨rfl, ?_, ?_⟩
  · have := own_put9 (own_put9 (own_put9 (own_put9 (own_put9 (own_put9 O1.out (l.length * 12 + 7) (.bool gh)) (l.length * 12 + 8) (.int .u64 (lb 0 xh))) (l.length * 12 + 9) (.int .u64 (lb 1 xh))) (l.length * 12 + 10) (.int .u64 (lb 2 xh))) (l.length * 12 + 11) (.int .u64 (lb 3 xh))) (l.length * 12 + 1) (.bool true)
    rw [cs_end] at this
    unfold Bs
    rw [List.length_append] at this ⊢
    exact this
  · have hset : ∀ (W : World) (i : Nat) (u : Value), w.grownBy W (some g) → w.grownBy (W.setCell ⟨g, i, none⟩ u) (some g) := fun W i u hW =>
      ⟨hW.os, hW.tape, hW.output, by simpa using hW.size, fun k hk hn => (Below.heap_setCell W ⟨g, i, none⟩ u k (fun hc => hn (by rw [hc]))).trans (hW.block k hk hn)⟩
    exact hset _ _ _ (hset _ _ _ (hset _ _ _ (hset _ _ _ (hset _ _ _ (hset _ _ _ ⟨HB1.out.os, HB1.out.tape, HB1.out.output, HB1.out.size, fun k hk _ => HB1.out.block k hk⟩)))))
theorem least_one (w : World) : Calls Tryz.prog 58 #[] w fun e w' => e = .returned (.agg #[.bool true, .int .u64 18446744073709551615, .int .u64 18446744073709551615, .int .u64 18446744073709551615, .int .u64 18446744073709551615]) ∧ ∃ o : Obj, w' = w.alloc o := by
  go_enter Tryz.func58, Tryz.ntmps58
  go_wp2
  exact bodyPost_ret (v := .agg #[.bool true, .int .u64 18446744073709551615, .int .u64 18446744073709551615, .int .u64 18446744073709551615, .int .u64 18446744073709551615]) (by simp [results, Tryz.results58, go_sem]) rfl ⟨rfl, _, rfl⟩
theorem zero_cells : (⟨false, false, false, 0, false, 0⟩ : RS).cells = (#[.bool false, .bool false, .bool false, .int .u64 0, .int .u64 0, .int .u64 0, .int .u64 0, .bool false, .int .u64 0, .int .u64 0, .int .u64 0, .int .u64 0] : Array Value).toList := by
  simp only [RS.cells, lb_zero]
theorem from_cells (g : Bool) (x : Nat) : (⟨true, false, g, x, false, 0⟩ : RS).cells = (#[.bool true, .bool false, .bool g, .int .u64 (lb 0 x), .int .u64 (lb 1 x), .int .u64 (lb 2 x), .int .u64 (lb 3 x), .bool false, .int .u64 0, .int .u64 0, .int .u64 0, .int .u64 0] : Array Value).toList := by
  simp only [RS.cells, lb_zero]

set_option maxRecDepth 100000 in
set_option maxHeartbeats 4000000 in
theorem turn_all (base : Nat) (v : Value) (l : List RS) (gy : Bool) (y0 y1 y2 y3 : Int) (w : World) (hO : Bs w base v l) (hB : base ≤ w.heap.size) (hln : l.length ≤ 100000) (hq : eq5 gy y0 y1 y2 y3 true 18446744073709551615 18446744073709551615 18446744073709551615 18446744073709551615 = true) :
    Calls Tryz.prog 62 #[v, .agg #[.bool gy, .int .u64 y0, .int .u64 y1, .int .u64 y2, .int .u64 y3], .bool true] w fun e w' => ∃ v', e = .returned v' ∧ Bs w' base v' (l ++ [⟨false, false, false, 0, false, 0⟩]) ∧ Onw w w' v v' := by
  obtain ⟨i0, hi0, hz0, hz1, hz2⟩ := info9 info_span
  have HO := Lib.hid hO; clear hO
  go_enter Tryz.func62, Tryz.ntmps62
  go_wp2
  go_region_held3 (fun w' => w'.cell? ⟨w.heap.size, 0, none⟩ = some (.bool gy) ∧ w'.cell? ⟨w.heap.size, 1, none⟩ = some (.int .u64 y0) ∧ w'.cell? ⟨w.heap.size, 2, none⟩ = some (.int .u64 y1) ∧ w'.cell? ⟨w.heap.size, 3, none⟩ = some (.int .u64 y2) ∧ w'.cell? ⟨w.heap.size, 4, none⟩ = some (.int .u64 y3)) (simp [go_sem, World.cell?_alloc_past]) (first | (go_at_call 58; refine (least_one _).mono ?_; rintro e w3 ⟨rfl, o3, rfl⟩))
  all_goals
    go_wp2_with (at_builtin; refine wpList_append_lies _ rfl (.tmp 30) (.tmp 32) 22 rfl base 37 i0 (V12 false false false 0 0 0 0 false 0 0 0 0) 12 88 und_spans hi0 hz0 hz1 hz2 rfl (by decide) v l.length _ rfl (own_keep9 HO.out (by repeat (first | exact Below.refl _ _ | refine bal ?_ _ | refine Below.drew ?_ | refine bdn ?_ _))) ⟨w.heap.size + 1 + 1, 0, none⟩ 1 1 _ rfl rfl (news9 _ _ _ _ (by simp)) (by rw [← zero_cells]; exact RS.cells_one _) (by decide) (by unfold maxLen; omega) (by omega) (by simp <;> omega) _ rfl ?_; intro g4 cap4 w4 hown hgrow hat hlt4; have BE4 := Lib.hid (Bs.snoc hown zero_cells); have ON4 := Lib.hid ((Onw.of (w := w) (by repeat (first | exact Below.refl _ _ | refine bal ?_ _ | refine Below.drew ?_ | refine bdn ?_ _)) v).app (l.length + 1) cap4 hgrow hat (Nat.le_refl _)); clear hown hgrow hat hlt4)
    go_ret
    exact ⟨_, rfl, BE4.out, ON4.out⟩
set_option maxRecDepth 100000 in
set_option maxHeartbeats 4000000 in
theorem turn_from (base : Nat) (v : Value) (l : List RS) (gy : Bool) (x : Nat) (w : World) (hO : Bs w base v l) (hB : base ≤ w.heap.size) (hln : l.length ≤ 100000) (hq : eq5 gy (lb 0 x) (lb 1 x) (lb 2 x) (lb 3 x) true 18446744073709551615 18446744073709551615 18446744073709551615 18446744073709551615 = false) :
    Calls Tryz.prog 62 #[v, .agg #[.bool gy, .int .u64 (lb 0 x), .int .u64 (lb 1 x), .int .u64 (lb 2 x), .int .u64 (lb 3 x)], .bool true] w fun e w' => ∃ v', e = .returned v' ∧ Bs w' base v' (l ++ [⟨true, false, gy, x, false, 0⟩]) ∧ Onw w w' v v' := by
  obtain ⟨i0, hi0, hz0, hz1, hz2⟩ := info9 info_span
  have HO := Lib.hid hO; clear hO
  go_enter Tryz.func62, Tryz.ntmps62
  go_wp2
  go_region_held3 (fun w' => w'.cell? ⟨w.heap.size, 0, none⟩ = some (.bool gy) ∧ w'.cell? ⟨w.heap.size, 1, none⟩ = some (.int .u64 (lb 0 x)) ∧ w'.cell? ⟨w.heap.size, 2, none⟩ = some (.int .u64 (lb 1 x)) ∧ w'.cell? ⟨w.heap.size, 3, none⟩ = some (.int .u64 (lb 2 x)) ∧ w'.cell? ⟨w.heap.size, 4, none⟩ = some (.int .u64 (lb 3 x))) (simp [go_sem, World.cell?_alloc_past]) (first | (go_at_call 58; refine (least_one _).mono ?_; rintro e w3 ⟨rfl, o3, rfl⟩))
  all_goals
    go_wp2_with (at_builtin; refine wpList_append_lies _ rfl (.tmp 34) (.tmp 37) 22 rfl base 37 i0 (V12 false false false 0 0 0 0 false 0 0 0 0) 12 88 und_spans hi0 hz0 hz1 hz2 rfl (by decide) v l.length _ rfl (own_keep9 HO.out (by repeat (first | exact Below.refl _ _ | refine bal ?_ _ | refine Below.drew ?_ | refine bdn ?_ _))) ⟨w.heap.size + 1 + 1, 0, none⟩ 1 1 _ rfl rfl (news9 _ _ _ _ (by simp)) (by rw [← from_cells]; exact RS.cells_one _) (by decide) (by unfold maxLen; omega) (by omega) (by simp <;> omega) _ rfl ?_; intro g4 cap4 w4 hown hgrow hat hlt4; have BE4 := Lib.hid (Bs.snoc hown (from_cells gy x)); have ON4 := Lib.hid ((Onw.of (w := w) (by repeat (first | exact Below.refl _ _ | refine bal ?_ _ | refine Below.drew ?_ | refine bdn ?_ _)) v).app (l.length + 1) cap4 hgrow hat (Nat.le_refl _)); clear hown hgrow hat hlt4)
    go_ret
    exact ⟨_, rfl, BE4.out, ON4.out⟩
end Go.Proofs.YtjlgiejggcbgbaaGreatDoor
end
section
namespace Go.Proofs.YtjlgiejggcbgbaaGreatDoor
open Go.RowKit Go.Shelf
open Go.Sort (grow)

theorem eq4_lb {x y : Nat} (hx : x < 2 ^ 256) (hy : y < 2 ^ 256) : eq4 (lb 0 x) (lb 1 x) (lb 2 x) (lb 3 x) (lb 0 y) (lb 1 y) (lb 2 y) (lb 3 y) = decide (x = y) := by
  by_cases h : x = y
  · subst h
    unfold eq4
    simp
  · rw [decide_eq_false h]
    have X := lb_sum x hx; have Y := lb_sum y hy
    unfold eq4
    by_cases h0 : lb 0 x = lb 0 y
    · by_cases h1 : lb 1 x = lb 1 y
      · by_cases h2 : lb 2 x = lb 2 y
        · by_cases h3 : lb 3 x = lb 3 y
          · exfalso
            rw [h0, h1, h2, h3, Y] at X
            omega
          · simp [h3]
        · simp [h2]
      · simp [h1]
    · simp [h0]
theorem eq5_z {y z : Int} (hy : y.natAbs < 2 ^ 256) (hz : z.natAbs < 2 ^ 256) :
    eq5 (decide (y < 0)) (lb 0 y.natAbs) (lb 1 y.natAbs) (lb 2 y.natAbs) (lb 3 y.natAbs) (decide (z < 0)) (lb 0 z.natAbs) (lb 1 z.natAbs) (lb 2 z.natAbs) (lb 3 z.natAbs) = decide (y = z) := by
  unfold eq5
  rw [eq4_lb hy hz]
  by_cases h : y = z
  · subst h; simp
  · rw [decide_eq_false h]
    by_cases h1 : y.natAbs = z.natAbs
    · have : (decide (y < 0) == decide (z < 0)) = false := by
        by_cases a : y < 0
        · rw [decide_eq_true a, decide_eq_false (by omega : ¬ z < 0)]; rfl
        · rw [decide_eq_false a, decide_eq_true (by omega : z < 0)]; rfl
      rw [this]; rfl
    · rw [decide_eq_false h1]; simp
/-- What a sweep has laid so far. -/
def outL (T : List Int) : List RS := (prs T).map fun p => rsp (ofSp p)
theorem outL_len (T : List Int) : (outL T).length = (prs T).length := by unfold outL; rw [List.length_map]
theorem outL_open {T : List Int} (h : T.length % 2 = 0) (t : Int) : outL (T ++ [t]) = outL T ++ [rsp (ofSp (t, topM))] := by unfold outL; rw [prs_open T t h, List.map_append]; rfl
theorem outL_shut {T : List Int} (h : T.length % 2 = 0) (t u : Int) : outL (T ++ [t] ++ [u]) = outL T ++ [rsp (ofSp (t, u - 1))] := by
  unfold outL
  rw [List.append_assoc, show [t] ++ [u] = [t, u] from rfl, prs_shut T t u h, List.map_append]; rfl
theorem rsp_all9 : rsp (ofSp (-topM, topM)) = ⟨false, false, false, 0, false, 0⟩ := by unfold rsp ofSp; simp
theorem rsp_from {t : Int} (h : t ≠ -topM) : rsp (ofSp (t, topM)) = ⟨true, false, decide (t < 0), t.natAbs, false, 0⟩ := by unfold rsp ofSp; simp [h]
theorem rsp_end {t u : Int} (h : u ≤ topM) : rsp (ofSp (t, u - 1)) = ⟨(rsp (ofSp (t, topM))).hl, true, (rsp (ofSp (t, topM))).gl, (rsp (ofSp (t, topM))).xl, decide (u - 1 < 0), (u - 1).natAbs⟩ := by
  have : u - 1 ≠ topM := by omega
  unfold rsp ofSp
  simp [this]
theorem inc_last {a : Int} : ∀ {T : List Int} {t : Int}, Inc a (T ++ [t]) → a ≤ t ∧ t ≤ topM
  | [], _, ⟨h1, h2, _⟩ => ⟨h1, h2⟩
  | b :: r, t, ⟨h1, _, h3⟩ => by have := inc_last (T := r) (t := t) h3; exact ⟨by omega, this.2⟩
theorem inc_two {a : Int} : ∀ {T : List Int} {t u : Int}, Inc a (T ++ [t] ++ [u]) → a ≤ t ∧ t < u ∧ u ≤ topM
  | [], _, _, ⟨h1, _, h3, h4, _⟩ => ⟨h1, by omega, h4⟩
  | b :: r, t, u, ⟨h1, _, h3⟩ => by have := inc_two (T := r) (t := t) (u := u) h3; exact ⟨by omega, this.2⟩

/-- span.turn. -/
theorem turn_any (base : Nat) (v : Value) (T : List Int) (t : Int) (w : World) (hT : Inc (-topM) (T ++ [t])) (hO : Bs w base v (outL T)) (hB : base ≤ w.heap.size) (hln : (outL T).length ≤ 100000) (q : Bool) (hq : q = decide (T.length % 2 = 0)) :
    Calls Tryz.prog 62 #[v, Iz t, .bool q] w fun e w' => ∃ v', e = .returned v' ∧ Bs w' base v' (outL (T ++ [t])) ∧ Onw w w' v v' := by
  have ht := inc_last hT
  have hta : t.natAbs < 2 ^ 256 := inR_abs.1 ht
  by_cases h : T.length % 2 = 0
  · rw [decide_eq_true h] at hq
    subst hq
    rw [outL_open h]
    have hM : (-topM).natAbs < 2 ^ 256 := inR_abs.1 (by have := topM_pos; unfold inR; omega)
    have he := eq5_z hta hM
    obtain ⟨t0, t1, t2, t3⟩ := topM_lb
    rw [Int.natAbs_neg, t0, t1, t2, t3, decide_eq_true (by have := topM_pos; omega : -topM < 0)] at he
    by_cases h0 : t = -topM
    · rw [decide_eq_true h0] at he
      have := turn_all base v (outL T) _ _ _ _ _ w hO hB hln he
      rw [h0, rsp_all9]
      rw [h0] at this
      exact this
    · rw [decide_eq_false h0] at he
      rw [rsp_from h0]
      exact turn_from base v (outL T) _ _ w hO hB hln he
  · rw [decide_eq_false h] at hq
    subst hq
    obtain ⟨T', u, rfl⟩ : ∃ T' u, T = T' ++ [u] := by
      rcases List.eq_nil_or_concat T with rfl | ⟨T', u, rfl⟩
      · simp at h
      · exact ⟨T', u, by simp⟩
    have h' : T'.length % 2 = 0 := by simp only [List.length_append, List.length_singleton] at h; omega
    have h2 := inc_two hT
    rw [outL_shut h', outL_open h'] at *
    rw [List.length_append] at hln
    have hp : ∀ W, Calls Tryz.prog 81 #[Iz t] W fun e w' => e = .returned (.tuple #[Iz (t - 1), .bool true]) ∧ Below W.heap.size W w' := fun W => by
      have := prev_z t hta W
      unfold Znum at this
      rw [if_pos (inR_abs.1 (by unfold inR; omega))] at this
      exact this
    obtain ⟨g, cap, hv⟩ : ∃ g cap, v = .slice (some ⟨g, 0, none⟩) ((outL T').length + 1) cap := by
      rcases hO.2 with ⟨_, h3⟩ | ⟨g, cap, cur, h3, _⟩
      · rw [List.length_append] at h3; simp at h3
      · exact ⟨g, cap, by rw [h3, List.length_append]; rfl⟩
    subst hv
    have hO' : Bs w base (.slice (some ⟨g, 0, none⟩) ((outL T').length + 1) cap) (outL T' ++ [⟨(rsp (ofSp (u, topM))).hl, (rsp (ofSp (u, topM))).hh, (rsp (ofSp (u, topM))).gl, (rsp (ofSp (u, topM))).xl, (rsp (ofSp (u, topM))).gh, (rsp (ofSp (u, topM))).xh⟩]) := hO
    refine (turn_end base g cap (outL T') _ _ _ _ _ _ _ _ _ _ _ _ _ w hO' (by omega) hp).mono ?_
    rintro e w' ⟨rfl, h3, h4⟩
    refine ⟨_, rfl, ?_, ⟨h4, Or.inl rfl⟩⟩
    rw [rsp_end h2.2.2]
    exact h3
end Go.Proofs.YtjlgiejggcbgbaaGreatDoor
end
section
namespace Go.Proofs.YtjlgiejggcbgbaaGreatDoor
open Go.RowKit Go.Shelf
open Go.Sort (grow)
attribute [local go_sem ↓] eql_nat neq_nat eql_int5 neq_int5

theorem sweep_none (la : Option Addr) (n lca : Nat) (lb : Option Addr) (m lcb : Nat) (c1 c2 : Bool) (fv : Value) (hc : (c1 && c2) = false) (w : World)
    (k1 : Calls Tryz.prog 16 #[.slice la n lca] w fun e w' => e = .returned (.bool c1) ∧ Below w.heap.size w w')
    (k2 : ∀ W, Below w.heap.size w W → Calls Tryz.prog 16 #[.slice lb m lcb] W fun e w' => e = .returned (.bool c2) ∧ Below W.heap.size W w') :
    Calls Tryz.prog 33 #[.slice la n lca, .slice lb m lcb, fv] w fun e w' => e = .returned (.slice none 0 0) ∧ Below w.heap.size w w' := by
  have K1 := Lib.hid k1; have K2 := Lib.hid k2; clear k1 k2
  go_enter Tryz.func33, Tryz.ntmps33
  cases c1 with
  | false =>
    go_wp2_with (go_at_call 16; ((with_reducible refine K1.out.mono ?_); rintro e w1 ⟨rfl, hb1⟩))
    go_ret
    exact ⟨rfl, hb1⟩
  | true =>
    obtain rfl : c2 = false := by simpa using hc
    go_wp2_with fail
    ((with_reducible refine K1.out.mono ?_); rintro e w1 ⟨rfl, hb1⟩)
    go_wp2_with (go_at_call 16; ((with_reducible refine (K2.out _ hb1).mono ?_); rintro e w2 ⟨rfl, hb2⟩))
    go_ret
    exact ⟨rfl, btr hb1 hb2⟩

/-- Two numbers beside one another. -/
def Row2i (W : World) (b : Nat) (u v : Int) : Prop := W.heap[b]? = some (.cells #[.int .i64 u, .int .i64 v] 81 (0, 0))
theorem Row2i.lt {W : World} {b : Nat} {u v : Int} (h : Row2i W b u v) : b < W.heap.size := by unfold Row2i at h; exact (Array.getElem?_eq_some_iff.1 h).1
theorem Row2i.cells {W : World} {b : Nat} {u v : Int} (h : Row2i W b u v) : W.cell? ⟨b, 0, none⟩ = some (.int .i64 u) ∧ W.cell? ⟨b, 1, none⟩ = some (.int .i64 v) := ⟨cell_of_row W b 0 _ _ _ h, cell_of_row W b 1 _ _ _ h⟩
theorem Row2i.free {W : World} {b : Nat} {u v : Int} (h : Row2i W b u v) : W.frozen? ⟨b, 0, none⟩ = false ∧ W.frozen? ⟨b, 1, none⟩ = false := ⟨frozen_of_row W b 0 _ _ h, frozen_of_row W b 1 _ _ h⟩
theorem Row2i.keep {W W' : World} {base b : Nat} {u v : Int} (hb : Below base W W') (hlt : b < base) (h : Row2i W b u v) : Row2i W' b u v := (hb.block b hlt).trans h
theorem Row2i.alloc {W : World} {b : Nat} {u v : Int} (h : Row2i W b u v) (o : Obj) : Row2i (W.alloc o) b u v := (Below.heap_alloc W o b h.lt).trans h
theorem Row2i.put0 {W : World} {b : Nat} {u v : Int} (h : Row2i W b u v) (x : Int) : Row2i (W.setCell ⟨b, 0, none⟩ (.int .i64 x)) b x v := by
  have := heap_setCell_same W b 0 _ _ (.int .i64 x) h
  simpa [Row2i] using this
theorem Row2i.put1 {W : World} {b : Nat} {u v : Int} (h : Row2i W b u v) (x : Int) : Row2i (W.setCell ⟨b, 1, none⟩ (.int .i64 x)) b u x := by
  have := heap_setCell_same W b 1 _ _ (.int .i64 x) h
  simpa [Row2i] using this
theorem evs_mem {k : Int} {s : Sp} : ∀ e ∈ evs k s, e.2.1 = k ∧ -1 ≤ e.2.2 ∧ e.2.2 ≤ 1 := by
  intro e he
  unfold evs mkE at he
  split at he
  · rcases List.mem_append.1 he with he | he
    · split at he
      · obtain rfl := List.mem_singleton.1 he; exact ⟨rfl, (by show (-1 : Int) ≤ 1; decide), (by show (1 : Int) ≤ 1; decide)⟩
      · cases he
    · split at he
      · split at he
        · obtain rfl := List.mem_singleton.1 he; exact ⟨rfl, (by show (-1 : Int) ≤ -1; decide), (by show (-1 : Int) ≤ 1; decide)⟩
        · cases he
      · cases he
  · cases he
theorem least_abs : (-topM).natAbs < 2 ^ 256 := inR_abs.1 (by have := topM_pos; unfold inR; omega)
/-- All edges of two lists, as values. -/
def allV (A B : List Sp) : List Ev := [mkE (-topM) least_abs 0 0] ++ A.flatMap (evs 0) ++ B.flatMap (evs 1)
theorem flat_eds {k : Int} {A : List Sp} (h : ∀ s ∈ A, SpR s) : (A.flatMap (evs k)).map edE = A.flatMap (edgesOf k) := by
  induction A with
  | nil => rfl
  | cons s A ih =>
    rw [List.flatMap_cons, List.flatMap_cons, List.map_append, evs_eds (h s List.mem_cons_self), ih fun q hq => h q (List.mem_cons_of_mem _ hq)]
theorem allV_eds {A B : List Sp} (hA : ∀ s ∈ A, SpR s) (hB : ∀ s ∈ B, SpR s) : (allV A B).map edE = allE A B := by
  unfold allV allE
  rw [List.map_append, List.map_append, flat_eds hA, flat_eds hB]
  rfl
theorem allV_mem {A B : List Sp} : ∀ e ∈ allV A B, (e.2.1 = 0 ∨ e.2.1 = 1) ∧ -1 ≤ e.2.2 ∧ e.2.2 ≤ 1 := by
  intro e he
  unfold allV at he
  rcases List.mem_append.1 he with he | he
  · rcases List.mem_append.1 he with he | he
    · obtain rfl := List.mem_singleton.1 he; exact ⟨.inl rfl, by decide, by decide⟩
    · obtain ⟨s, _, h⟩ := List.mem_flatMap.1 he
      have := evs_mem e h
      exact ⟨.inl this.1, this.2⟩
  · obtain ⟨s, _, h⟩ := List.mem_flatMap.1 he
    have := evs_mem e h
    exact ⟨.inr this.1, this.2⟩
theorem allV_len (A B : List Sp) : (allV A B).length ≤ 1 + 2 * A.length + 2 * B.length := by
  unfold allV
  rw [List.length_append, List.length_append]
  have := evs_flat_len 0 A
  have := evs_flat_len 1 B
  simp only [List.length_singleton]
  omega
theorem ad_zero {e : Ev} (d : Int) (h : e.2.1 = 0) : ad 0 (edE e) d = d + e.2.2 ∧ ad 1 (edE e) d = d := by
  unfold ad edE
  simp [h]
theorem ad_one {e : Ev} (d : Int) (h : e.2.1 = 1) : ad 0 (edE e) d = d ∧ ad 1 (edE e) d = d + e.2.2 := by
  unfold ad edE
  simp [h]
/-- One edge on: it is not the last one at its place. -/
theorem walk_same (f : Bool → Bool → Bool) {l : List Ev} {k : Nat} {e e' : Ev} (h : l[k]? = some e) (h' : l[k + 1]? = some e') (hs : e'.1.val = e.1.val) (d0 d1 : Int) (i : Bool) :
    walkT f ((l.drop k).map edE) d0 d1 i = walkT f ((l.drop (k + 1)).map edE) (ad 0 (edE e) d0) (ad 1 (edE e) d1) i := by
  obtain ⟨hk, rfl⟩ := List.getElem?_eq_some_iff.1 h
  rw [List.drop_eq_getElem_cons hk, List.map_cons]
  conv => lhs; unfold walkT
  obtain ⟨hk', rfl⟩ := List.getElem?_eq_some_iff.1 h'
  rw [if_pos]
  rw [List.drop_eq_getElem_cons hk', List.map_cons]
  simpa [edE] using hs
/-- One edge on: it is the last one at its place. -/
theorem walk_last (f : Bool → Bool → Bool) {l : List Ev} {k : Nat} {e : Ev} (h : l[k]? = some e) (hs : ∀ e', l[k + 1]? = some e' → e'.1.val ≠ e.1.val) (d0 d1 : Int) (i : Bool) :
    walkT f ((l.drop k).map edE) d0 d1 i = if (f (decide (0 < ad 0 (edE e) d0)) (decide (0 < ad 1 (edE e) d1)) != i) = true then e.1.val :: walkT f ((l.drop (k + 1)).map edE) (ad 0 (edE e) d0) (ad 1 (edE e) d1) (!i) else walkT f ((l.drop (k + 1)).map edE) (ad 0 (edE e) d0) (ad 1 (edE e) d1) i := by
  obtain ⟨hk, rfl⟩ := List.getElem?_eq_some_iff.1 h
  rw [List.drop_eq_getElem_cons hk, List.map_cons]
  conv => lhs; unfold walkT
  rw [if_neg]
  · rfl
  · intro hc
    by_cases hk' : k + 1 < l.length
    · rw [List.drop_eq_getElem_cons hk', List.map_cons] at hc
      exact hs _ (List.getElem?_eq_getElem hk') (by simpa [edE] using hc)
    · rw [List.drop_eq_nil_of_le (by omega)] at hc
      simp at hc
/-- What the loop keeps. -/
structure SwI (w : World) (D g : Nat) (l : List Ev) (f : Bool → Bool → Bool) (Tall : List Int) (wr : World) (o : Value) (k : Nat) (T : List Int) (d0 d1 : Int) (p : Bool) : Prop where
  row : Bs wr (D + 1) o (outL T)
  dep : Row2i wr D d0 d1
  le : LE wr g l
  bw : Below w.heap.size w wr
  tot : T ++ walkT f ((l.drop k).map edE) d0 d1 p = Tall
  par : p = decide (T.length % 2 = 1)
  b0 : -(k : Int) ≤ d0 ∧ d0 ≤ k
  b1 : -(k : Int) ≤ d1 ∧ d1 ≤ k
theorem par_next {T : List Int} {z : Int} {p : Bool} (h : p = decide (T.length % 2 = 1)) : (!p) = decide ((T ++ [z]).length % 2 = 1) := by
  subst h
  rw [List.length_append]
  simp only [List.length_singleton]
  by_cases h : T.length % 2 = 1
  · rw [decide_eq_true h, decide_eq_false (by omega)]; rfl
  · rw [decide_eq_false h, decide_eq_true (by omega)]; rfl
theorem inc_prefix {a z : Int} {r : List Int} : ∀ {T : List Int}, Inc a (T ++ z :: r) → Inc a (T ++ [z])
  | [], _ => by rename_i h; exact ⟨h.1, h.2.1, trivial⟩
  | b :: T, ⟨h1, h2, h3⟩ => ⟨h1, h2, inc_prefix (T := T) h3⟩
theorem LE.keepB {w w' : World} {base g : Nat} {l : List Ev} (h : LE w g l) (hb : Below base w w') (hlt : g < base) : LE w' g l := fun i e hi j u hj => by
  rw [← h i e hi j u hj]
  exact hb.cell (p := ⟨g, i * 7 + j, none⟩) hlt
theorem Ls.lt {w : World} {la : Option Addr} {l : List RS} {bb off : Nat} (h : Ls w la l bb off) (h0 : 0 < l.length) : bb < w.heap.size := by
  have := h.cells 0 l[0] (List.getElem?_eq_getElem h0) 0 _ rfl
  exact block_lt_of_cell this
end Go.Proofs.YtjlgiejggcbgbaaGreatDoor
end
