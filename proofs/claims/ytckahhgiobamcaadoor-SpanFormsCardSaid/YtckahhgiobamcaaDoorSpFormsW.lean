/-
  entrepotlaw9.SpanForms: its loop over Norm's spans.
-/
import Derived.Test.YtckahhgiobamcaaDoorSW
import Derived.Test.YtckahhgiobamcaaDoorSpM
namespace Go.Proofs.YtckahhgiobamcaaDoor
open Go.RowKit Go.Shelf
open Go.Sort (grow)
attribute [local go_sem ↓] eql_nat neq_nat eql_int5 neq_int5

theorem few_any (la : Option Addr) (n lca : Nat) (lb : Option Addr) (m lcb : Nat) (w : World) : Calls Tryd.prog 8 #[.slice la n lca, .slice lb m lcb] w fun e w' => e = .returned (.bool (decide (n ≤ 12) && decide (m ≤ 12))) ∧ w = w' := by
  by_cases h1 : n ≤ 12 <;> by_cases h2 : m ≤ 12
  all_goals
    have HD1 := Lib.hid h1; have HD2 := Lib.hid h2
    have e1 : (n : Int) ≤ 12 ∨ ¬ (n : Int) ≤ 12 := by omega
    have e2 : (m : Int) ≤ 12 ∨ ¬ (m : Int) ≤ 12 := by omega
    go_enter Tryd.func8, Tryd.ntmps8
    rcases e1 with e1 | e1 <;> rcases e2 with e2 | e2 <;> first | (exfalso; have a1 := HD1.out; have a2 := HD2.out; omega) | (go_wp2; go_ret; exact ⟨ret_bool9 (by simp [HD1.out, HD2.out]), rfl⟩)
theorem sep_at {a : Int} : ∀ {P : List (Int × Int)} {k : Nat} {p : Int × Int}, Sep a P → P[k]? = some p → a ≤ p.1 ∧ p.1 ≤ p.2 ∧ p.2 ≤ topM ∧ (k + 1 < P.length → p.2 + 2 ≤ topM) ∧ (∀ j q, k = j + 1 → P[j]? = some q → a ≤ q.1 ∧ q.1 ≤ q.2 ∧ q.2 + 2 ≤ p.1)
  | [], _, _, _, h => by simp at h
  | r :: P, 0, p, ⟨h1, h2, h3, h4⟩, h => by
    simp at h
    subst h
    refine ⟨h1, h2, h3, fun hl => ?_, fun j q hj => by omega⟩
    cases P with
    | nil => simp at hl
    | cons s P => have := h4.1; have := h4.2.1; have := h4.2.2.1; omega
  | r :: P, k + 1, p, ⟨h1, h2, h3, h4⟩, h => by
    have h' : P[k]? = some p := by simpa using h
    obtain ⟨a1, a2, a3, a4, a5⟩ := sep_at h4 h'
    refine ⟨by omega, a2, a3, fun hl => a4 (by simpa using hl), fun j q hj hq => ?_⟩
    obtain rfl : j = k := by omega
    cases j with
    | zero => simp at hq; subst hq; exact ⟨h1, h2, a1⟩
    | succ j =>
      obtain ⟨b1, b2, b3⟩ := a5 j q rfl (by simpa using hq)
      exact ⟨by omega, b2, b3⟩
theorem rs_eq {r : RS} {a b c : Bool} {d : Nat} {e : Bool} {f : Nat} (h1 : r.hl = a) (h2 : r.hh = b) (h3 : r.gl = c) (h4 : r.xl = d) (h5 : r.gh = e) (h6 : r.xh = f) : r = ⟨a, b, c, d, e, f⟩ := by
  subst h1 h2 h3 h4 h5 h6
  rfl
theorem rs_lo {p : Int × Int} (h : p.1 = -topM) : (rsp (ofSp p)).hl = false ∧ (rsp (ofSp p)).gl = false ∧ (rsp (ofSp p)).xl = 0 := by unfold rsp ofSp; simp [h]
theorem rs_lo' {p : Int × Int} (h : p.1 ≠ -topM) : (rsp (ofSp p)).hl = true ∧ (rsp (ofSp p)).gl = decide (p.1 < 0) ∧ (rsp (ofSp p)).xl = p.1.natAbs := by unfold rsp ofSp; simp [h]
theorem rs_hi {p : Int × Int} (h : p.2 = topM) : (rsp (ofSp p)).hh = false ∧ (rsp (ofSp p)).gh = false ∧ (rsp (ofSp p)).xh = 0 := by unfold rsp ofSp; simp [h]
theorem rs_hi' {p : Int × Int} (h : p.2 ≠ topM) : (rsp (ofSp p)).hh = true ∧ (rsp (ofSp p)).gh = decide (p.2 < 0) ∧ (rsp (ofSp p)).xh = p.2.natAbs := by unfold rsp ofSp; simp [h]

theorem csS_get : ∀ {l : List RS} {j : Nat} {u : Value}, (csS l)[j]? = some u → ∃ r, l[j / 12]? = some r ∧ r.cells[j % 12]? = some u
  | [], j, u, h => by simp [csS] at h
  | r :: l, j, u, h => by
    have e : csS (r :: l) = r.cells ++ csS l := by unfold csS; simp
    rw [e] at h
    by_cases hj : j < 12
    · rw [List.getElem?_append_left (by rw [RS.cells_length]; exact hj)] at h
      exact ⟨r, by rw [Nat.div_eq_of_lt hj]; rfl, by rw [Nat.mod_eq_of_lt hj]; exact h⟩
    · rw [List.getElem?_append_right (by rw [RS.cells_length]; omega), RS.cells_length] at h
      obtain ⟨s, h1, h2⟩ := csS_get h
      refine ⟨s, ?_, ?_⟩
      · rw [show j / 12 = (j - 12) / 12 + 1 by omega]; simpa using h1
      · rw [show j % 12 = (j - 12) % 12 by omega]; exact h2
theorem Ls.news {w : World} {la : Option Addr} {l : List RS} {bb off : Nat} (h : Ls w la l bb off) : ∀ j u, (csS l)[j]? = some u → w.cell? ((⟨bb, off, none⟩ : Addr).add j) = some u := by
  intro j u hu
  obtain ⟨r, h1, h2⟩ := csS_get hu
  have := h.cells _ _ h1 _ _ h2
  rw [addr_add9, show off + j = off + j / 12 * 12 + j % 12 by omega]
  exact this
theorem Ls.drop {w : World} {la : Option Addr} {l : List RS} {bb off : Nat} (h : Ls w la l bb off) (k : Nat) : Ls w (some ⟨bb, off + k * 12, none⟩) (l.drop k) bb (off + k * 12) := by
  refine ⟨fun _ => rfl, fun i r hr => ?_, by have := h.len; rw [List.length_drop]; omega⟩
  rw [List.getElem?_drop] at hr
  have := h.cells _ _ hr
  rw [show off + k * 12 + i * 12 = off + (k + i) * 12 by omega]
  exact this
theorem Ls.take {w : World} {la : Option Addr} {l : List RS} {bb off : Nat} (h : Ls w la l bb off) (k : Nat) : Ls w la (l.take k) bb off := by
  refine ⟨fun hl => h.la (by rw [List.length_take] at hl; omega), fun i r hr => ?_, by have := h.len; rw [List.length_take]; omega⟩
  rw [List.getElem?_take] at hr
  split at hr
  · exact h.cells _ _ hr
  · cases hr
theorem own_empty9 (W : World) (e : TypeId) (n H : Nat) (h : W.heap.size = H) : (W.alloc (.cells #[] e)).ownsRow H e n (.slice (some ⟨H, 0, none⟩) 0 0) 0 [] := by
  subst h
  exact ⟨by simp, .inr ⟨W.heap.size, 0, #[], rfl, Nat.le_refl _, heap_alloc_new W _, Nat.le_refl _, by decide, by simp, by simp⟩⟩
theorem in9_row {W : World} {base n : Nat} {v : Value} {B : List Sp} {xs : List Value} (h : W.ownsRow base 35 12 v n xs) (hn : n = B.length) (hx : xs = csS (B.map rsp)) (hS : ∀ s ∈ B, SpR s) (h1 : B.length ≤ 1000) : In9 W v B := by
  subst hx
  have hb : Bs W base v (B.map rsp) := by
    unfold Bs
    rw [List.length_map, ← hn]
    exact h
  obtain ⟨la, lc, bb, e, hL, h2, h3, _⟩ := hb.form
  rw [List.length_map] at e h2
  exact ⟨la, lc, bb, 0, e, hL, h2, h3, hS, h1⟩
theorem rot_mem (A : List Sp) (k : Nat) (x : Int) : memS ((A.drop k ++ A.take k) ++ A) x = memS A x := by
  have e : memS A x = (memS (A.take k) x || memS (A.drop k) x) := by rw [← memS_append, List.take_append_drop]
  rw [memS_append, memS_append, e]
  cases memS (A.take k) x <;> cases memS (A.drop k) x <;> rfl
theorem rot_in {A : List Sp} {k : Nat} {p : Sp → Prop} (h : ∀ s ∈ A, p s) : ∀ s ∈ (A.drop k ++ A.take k) ++ A, p s := by
  intro s hs
  rcases List.mem_append.1 hs with hs | hs
  · rcases List.mem_append.1 hs with hs | hs
    · exact h s (List.mem_of_mem_drop hs)
    · exact h s (List.mem_of_mem_take hs)
  · exact h s hs
theorem rot_len (A : List Sp) {k : Nat} (hk : k ≤ A.length) : ((A.drop k ++ A.take k) ++ A).length = A.length + A.length := by
  rw [List.length_append, List.length_append, List.length_drop, List.length_take, Nat.min_eq_left hk]; omega
theorem rot_cs (A : List Sp) (k : Nat) : (csS ((A.map rsp).drop k) ++ csS ((A.map rsp).take k)) ++ csS (A.map rsp) = csS (((A.drop k ++ A.take k) ++ A).map rsp) := by
  rw [List.map_append, List.map_append, csS_app, csS_app, List.map_drop, List.map_take]
theorem own_cap9 {W : World} {base : Nat} {e : TypeId} {size g n c m : Nat} {xs : List Value} (h : W.ownsRow base e size (.slice (some ⟨g, 0, none⟩) n c) m xs) : n ≤ c := by
  obtain ⟨h1, h2⟩ := h
  rcases h2 with ⟨h3, _⟩ | ⟨g', cap, cur, h3, h4, h5, h6⟩
  · cases h3
  · cases h3
    exact h6.1
theorem in9_of {w : World} {la : Option Addr} {lc : Nat} {l : List RS} {bb off : Nat} (hK : Ls w la l bb off) (h1 : l.length ≤ lc) (h2 : lc ≤ maxLen) (hx : ∀ r ∈ l, r.xl < 2 ^ 256 ∧ r.xh < 2 ^ 256) (hm : mayL l = true) : ∃ A : List Sp, l = A.map rsp ∧ In9 w (.slice la l.length lc) A := by
  unfold mayL at hm
  rw [Bool.and_eq_true] at hm
  obtain ⟨A, rfl, hR⟩ := rsp_list hx hm.2
  have h0 := of_decide_eq_true hm.1
  rw [List.length_map] at *
  exact ⟨A, rfl, la, lc, bb, off, rfl, hK, h1, h2, hR, h0⟩
theorem in9_none (W : World) (la : Option Addr) : In9 W (.slice la 0 0) [] := ⟨la, 0, 0, 0, rfl, Ls.nil _ _, Nat.le_refl _, Nat.zero_le _, fun s h => absurd h (by simp), Nat.zero_le _⟩
theorem turn_mod (turn : Int) {n : Nat} (hn : 0 < n) (h12 : n ≤ 12) : ∃ k1 : Nat, k1 < n ∧ wrap64 ((IntKind.u64.wrap turn).tmod (n : Int)) = (k1 : Int) := by
  have h0 : 0 ≤ IntKind.u64.wrap turn := by
    have e : IntKind.u64.wrap turn = turn % 18446744073709551616 := by first | exact IntKind.wrap_u64' _ | rfl
    rw [e]; exact Int.emod_nonneg _ (by decide)
  rw [Int.tmod_eq_emod_of_nonneg h0]
  have h1 := Int.emod_nonneg (IntKind.u64.wrap turn) (show (n : Int) ≠ 0 by omega)
  have h2 := Int.emod_lt_of_pos (IntKind.u64.wrap turn) (show 0 < (n : Int) by omega)
  refine ⟨(IntKind.u64.wrap turn % (n : Int)).toNat, by omega, ?_⟩
  unfold wrap64
  omega

set_option maxRecDepth 400000 in
set_option maxHeartbeats 16000000 in
theorem forms_main (la : Option Addr) (lca : Nat) (A : List Sp) (turn : Int) (w0 : World) (hT : Tb w0) (hA : In9 w0 (.slice la A.length lca) A) (a12 : A.length ≤ 12)
    (km : ∀ W, Below w0.heap.size w0 W → Calls Tryd.prog 11 #[.slice la A.length lca] W fun e w' => e = .returned (.bool true) ∧ Below W.heap.size W w') :
    Calls Tryd.prog 5 #[.slice la A.length lca, .int .i64 turn] w0 fun e w' => e = .returned (.bool true) ∧ Below w0.heap.size w0 w' := by
  have JA := Lib.hid hA
  have HT := Lib.hid hT; have IA := Lib.hid (IS.of hA); have KM := Lib.hid km
  have hfew := few_any la A.length lca none 0 0 w0
  rw [decide_eq_true a12] at hfew
  have HFW := Lib.hid hfew
  clear hT hA km hfew
  go_enter Tryd.func5, Tryd.ntmps5
  go_wp2_with fail
  ((with_reducible refine HFW.out.mono ?_); rintro e w1 ⟨rfl, rfl⟩)
  go_wp2_with fail
  ((with_reducible refine (KM.out _ (Below.refl _ _)).mono ?_); rintro e w1 ⟨rfl, hb1⟩)
  go_wp2_with fail
  ((with_reducible refine (norm_is (IA.out.keep hb1)).mono ?_); rintro e w2 ⟨v5, rfl, hN5, hb⟩)
  have B2 := Lib.hid (btr hb1 hb)
  have HN5 := Lib.hid hN5
  obtain ⟨l5, c5, b5, P, rfl, hLs, hle, hmx, hIN, hPk⟩ := hN5
  have HLS := Lib.hid hLs; have HIN := Lib.hid hIN
  have hPl : P.length ≤ 13 := by omega
  clear hb hb1 hLs hle hmx hIN hPk
  go_wp2
  go_loopw [6] (fun i wr => ∃ k : Nat, k ≤ P.length ∧ i = .int .i64 k ∧ Hid (Below w2.heap.size w2 wr)) (fun i _ => P.length - (intOf i).toNat)
  case atStart => exact ⟨0, Nat.zero_le _, rfl, Below.refl _ _⟩
  case round =>
    obtain ⟨k, hk, rfl, BW⟩ := hrel
    by_cases hlt : k < P.length
    · obtain ⟨p, hp⟩ : ∃ p, P[k]? = some p := ⟨P[k], List.getElem?_eq_getElem hlt⟩
      obtain ⟨f1, f2, f3, f4, f5⟩ := sep_at HIN.out.1 hp
      have hr := (HLS.out.cells k (rsp (ofSp p)) (by rw [List.getElem?_map, hp]; rfl)).keep BW.out
      obtain rfl : l5 = some ⟨b5, 0, none⟩ := HLS.out.la (by rw [List.length_map]; omega)
      have HP := Lib.hid hp
      clear hp
      by_cases c1 : p.1 = -topM
      · have hl1 := rs_lo c1
        obtain rfl : k = 0 := by
          rcases Nat.eq_zero_or_pos k with h | h
          · exact h
          · obtain ⟨j, rfl⟩ : ∃ j, k = j + 1 := ⟨k - 1, by omega⟩
            have := f5 j (P[j]'(by omega)) rfl (List.getElem?_eq_getElem _)
            omega
        by_cases c2 : p.2 = topM
        · have hh1 := rs_hi c2
          have hpl : P.length = 1 := by
            have := topM_pos
            rcases Nat.lt_or_ge (0 + 1) P.length with h | h
            · have := f4 h
              omega
            · omega
          have hr' : C12 wr b5 (0 + 0 * 12) ⟨false, false, false, 0, false, 0⟩ := (rs_eq hl1.1 hh1.1 hl1.2.1 hl1.2.2 hh1.2.1 hh1.2.2) ▸ hr
          obtain ⟨c0, c1, c2, c3, c4, c5', c6, c7, c8, c9, c10, c11⟩ := hr'.twelve
          have hlast : ¬ (((0 : Nat) : Int)) < (P.length : Int) - 1 := by omega
          clear hr hr' hl1 hh1 f1 f2 f3 f4 f5
          go_wp2
          go_roundw
          case rel => exact ⟨0 + 1, by omega, by go_num, (bal BW.out _)⟩
          case measure => simp [intOf]; omega
        · have hh1 := rs_hi' c2
          have hr' : C12 wr b5 (0 + 0 * 12) ⟨false, true, false, 0, (decide (p.2 < 0)), p.2.natAbs⟩ := (rs_eq hl1.1 hh1.1 hl1.2.1 hl1.2.2 hh1.2.1 hh1.2.2) ▸ hr
          obtain ⟨c0, c1, c2, c3, c4, c5', c6, c7, c8, c9, c10, c11⟩ := hr'.twelve
          clear hr hr' hl1 hh1 f1 f2 f3 f4 f5
          go_wp2
          go_roundw
          case rel => exact ⟨0 + 1, by omega, by go_num, (bal BW.out _)⟩
          case measure => simp [intOf]; omega
      · have hl1 := rs_lo' c1
        by_cases c2 : p.2 = topM
        · have hh1 := rs_hi c2
          have hpl : P.length = k + 1 := by
            have := topM_pos
            rcases Nat.lt_or_ge (k + 1) P.length with h | h
            · have := f4 h
              omega
            · omega
          cases k with
          | zero =>
            have hr' : C12 wr b5 (0 + 0 * 12) ⟨true, false, (decide (p.1 < 0)), p.1.natAbs, false, 0⟩ := (rs_eq hl1.1 hh1.1 hl1.2.1 hl1.2.2 hh1.2.1 hh1.2.2) ▸ hr
            obtain ⟨c0, c1, c2, c3, c4, c5', c6, c7, c8, c9, c10, c11⟩ := hr'.twelve
            have hlast : ¬ (((0 : Nat) : Int)) < (P.length : Int) - 1 := by omega
            clear hr hr' hl1 hh1 f1 f2 f3 f4 f5
            go_wp2
            go_roundw
            case rel => exact ⟨0 + 1, by omega, by go_num, (bal BW.out _)⟩
            case measure => simp [intOf]; omega
          | succ j =>
            have hr' : C12 wr b5 (0 + (j + 1) * 12) ⟨true, false, (decide (p.1 < 0)), p.1.natAbs, false, 0⟩ := (rs_eq hl1.1 hh1.1 hl1.2.1 hl1.2.2 hh1.2.1 hh1.2.2) ▸ hr
            rw [Nat.zero_add] at hr'
            obtain ⟨c0, c1, c2, c3, c4, c5', c6, c7, c8, c9, c10, c11⟩ := hr'.twelve
            have hlast : ¬ ((((j + 1) : Nat) : Int)) < (P.length : Int) - 1 := by omega
            obtain ⟨q, hq⟩ : ∃ q, P[j]? = some q := ⟨P[j], List.getElem?_eq_getElem (by omega)⟩
            obtain ⟨g1, g2, g3⟩ := f5 j q rfl hq
            have hrq := (HLS.out.cells j (rsp (ofSp q)) (by rw [List.getElem?_map, hq]; rfl)).keep BW.out
            have hq1 := rs_hi' (p := q) (by omega)
            have hrq' : C12 wr b5 (0 + j * 12) ⟨(rsp (ofSp q)).hl, true, (rsp (ofSp q)).gl, (rsp (ofSp q)).xl, decide (q.2 < 0), q.2.natAbs⟩ := (rs_eq rfl hq1.1 rfl rfl hq1.2.1 hq1.2.2) ▸ hrq
            rw [Nat.zero_add] at hrq'
            obtain ⟨d0, d1, d2, d3, d4, d5, d6, d7, d8, d9, d10, d11⟩ := hrq'.twelve
            have HS1 : Hid (∀ W, Calls Tryd.prog 23 #[.agg #[.bool (decide (q.2 < 0)), .int .u64 (lb 0 (q.2).natAbs), .int .u64 (lb 1 (q.2).natAbs), .int .u64 (lb 2 (q.2).natAbs), .int .u64 (lb 3 (q.2).natAbs)], .bool true] W fun e w' => e = .returned (.tuple #[.agg #[.bool (decide (q.2 + 1 < 0)), .int .u64 (lb 0 (q.2 + 1).natAbs), .int .u64 (lb 1 (q.2 + 1).natAbs), .int .u64 (lb 2 (q.2 + 1).natAbs), .int .u64 (lb 3 (q.2 + 1).natAbs)], .bool true]) ∧ Below W.heap.size W w') := Lib.hid (fun W => by have := rstep_z q.2 (inR_abs.1 (by unfold inR; omega)) true (q.2 + 1) rfl W; unfold Znum at this; rw [if_pos (inR_abs.1 (by unfold inR; omega))] at this; exact this)
            have HC2 : Hid (∀ W, Calls Tryd.prog 27 #[.agg #[.bool (decide (q.2 + 1 < 0)), .int .u64 (lb 0 (q.2 + 1).natAbs), .int .u64 (lb 1 (q.2 + 1).natAbs), .int .u64 (lb 2 (q.2 + 1).natAbs), .int .u64 (lb 3 (q.2 + 1).natAbs)], .agg #[.bool (decide (p.1 < 0)), .int .u64 (lb 0 (p.1).natAbs), .int .u64 (lb 1 (p.1).natAbs), .int .u64 (lb 2 (p.1).natAbs), .int .u64 (lb 3 (p.1).natAbs)]] W fun e w' => e = .returned (.int .i64 (-1)) ∧ Below W.heap.size W w') := Lib.hid (fun W => by have := rcmpint_z (q.2 + 1) p.1 (inR_abs.1 (by unfold inR; omega)) (inR_abs.1 (by unfold inR; omega)) W; rw [show cmpv (q.2 + 1) p.1 = -1 by unfold cmpv; rw [if_pos (by omega)]] at this; exact this)
            clear hq hrq hrq' hq1 g1 g2 g3 d0 d1 d2 d3 d4 d5 d6
            clear hr hr' hl1 hh1 f1 f2 f3 f4 f5 hpl
            have u7' := fun o => alloc_cell9 d7 o
            have u8' := fun o => alloc_cell9 d8 o
            have u9' := fun o => alloc_cell9 d9 o
            have u10' := fun o => alloc_cell9 d10 o
            have u11' := fun o => alloc_cell9 d11 o
            go_wp2_with fail
            ((with_reducible refine (HS1.out _).mono ?_); rintro e w4 ⟨rfl, hb⟩)
            have X4 := Row12.keep hb (Row12.new wr (.bool true) (.bool false) (.bool (decide (p.1 < 0))) (.int .u64 (lb 0 p.1.natAbs)) (.int .u64 (lb 1 p.1.natAbs)) (.int .u64 (lb 2 p.1.natAbs)) (.int .u64 (lb 3 p.1.natAbs)) (.bool false) (.int .u64 (lb 0 0)) (.int .u64 (lb 1 0)) (.int .u64 (lb 2 0)) (.int .u64 (lb 3 0)))
            have B4 := Lib.hid (btr (bal BW.out _) hb)
            clear hb
            obtain ⟨r0, r1, r2, r3, r4, r5, r6, r7, r8, r9, r10, r11⟩ := (X4.alloc (.cells #[.bool (decide (q.2 + 1 < 0)), .int .u64 (lb 0 (q.2 + 1).natAbs), .int .u64 (lb 1 (q.2 + 1).natAbs), .int .u64 (lb 2 (q.2 + 1).natAbs), .int .u64 (lb 3 (q.2 + 1).natAbs)] 33)).parts
            go_wp2_with fail
            ((with_reducible refine (HC2.out _).mono ?_); rintro e w5 ⟨rfl, hb⟩)
            have B5 := Lib.hid (btr (bal B4.out _) hb)
            clear hb
            go_wp2
            go_roundw
            case rel => exact ⟨(j + 1) + 1, by omega, by go_num, B5.out⟩
            case measure => simp [intOf]; omega
        · have hh1 := rs_hi' c2
          cases k with
          | zero =>
            have hr' : C12 wr b5 (0 + 0 * 12) ⟨true, true, (decide (p.1 < 0)), p.1.natAbs, (decide (p.2 < 0)), p.2.natAbs⟩ := (rs_eq hl1.1 hh1.1 hl1.2.1 hl1.2.2 hh1.2.1 hh1.2.2) ▸ hr
            obtain ⟨c0, c1, c2, c3, c4, c5', c6, c7, c8, c9, c10, c11⟩ := hr'.twelve
            have HC1 : Hid (∀ W, Calls Tryd.prog 27 #[.agg #[.bool (decide (p.1 < 0)), .int .u64 (lb 0 (p.1).natAbs), .int .u64 (lb 1 (p.1).natAbs), .int .u64 (lb 2 (p.1).natAbs), .int .u64 (lb 3 (p.1).natAbs)], .agg #[.bool (decide (p.2 < 0)), .int .u64 (lb 0 (p.2).natAbs), .int .u64 (lb 1 (p.2).natAbs), .int .u64 (lb 2 (p.2).natAbs), .int .u64 (lb 3 (p.2).natAbs)]] W fun e w' => e = .returned (.int .i64 (cmpv p.1 p.2)) ∧ Below W.heap.size W w') := Lib.hid (fun W => rcmpint_z p.1 p.2 (inR_abs.1 (by unfold inR; omega)) (inR_abs.1 (by unfold inR; omega)) W)
            have hcm : ¬ 0 < cmpv p.1 p.2 := by unfold cmpv; split <;> (try split) <;> omega
            clear hr hr' hl1 hh1 f1 f2 f3 f4 f5
            go_wp2_with fail
            ((with_reducible refine (HC1.out _).mono ?_); rintro e w3 ⟨rfl, hb⟩)
            have X3 := Row12.keep hb (Row12.new wr (.bool true) (.bool true) (.bool (decide (p.1 < 0))) (.int .u64 (lb 0 p.1.natAbs)) (.int .u64 (lb 1 p.1.natAbs)) (.int .u64 (lb 2 p.1.natAbs)) (.int .u64 (lb 3 p.1.natAbs)) (.bool (decide (p.2 < 0))) (.int .u64 (lb 0 p.2.natAbs)) (.int .u64 (lb 1 p.2.natAbs)) (.int .u64 (lb 2 p.2.natAbs)) (.int .u64 (lb 3 p.2.natAbs)))
            have B3 := Lib.hid (btr (bal BW.out _) hb)
            clear hb c0 c1 c2 c3 c4 c5' c6 c7 c8 c9 c10 c11
            obtain ⟨p0, p1, p2, p3, p4, p5, p6, p7, p8, p9, p10, p11⟩ := X3.parts
            go_wp2
            go_roundw
            case rel => exact ⟨0 + 1, by omega, by go_num, B3.out⟩
            case measure => simp [intOf]; omega
          | succ j =>
            have hr' : C12 wr b5 (0 + (j + 1) * 12) ⟨true, true, (decide (p.1 < 0)), p.1.natAbs, (decide (p.2 < 0)), p.2.natAbs⟩ := (rs_eq hl1.1 hh1.1 hl1.2.1 hl1.2.2 hh1.2.1 hh1.2.2) ▸ hr
            rw [Nat.zero_add] at hr'
            obtain ⟨c0, c1, c2, c3, c4, c5', c6, c7, c8, c9, c10, c11⟩ := hr'.twelve
            have HC1 : Hid (∀ W, Calls Tryd.prog 27 #[.agg #[.bool (decide (p.1 < 0)), .int .u64 (lb 0 (p.1).natAbs), .int .u64 (lb 1 (p.1).natAbs), .int .u64 (lb 2 (p.1).natAbs), .int .u64 (lb 3 (p.1).natAbs)], .agg #[.bool (decide (p.2 < 0)), .int .u64 (lb 0 (p.2).natAbs), .int .u64 (lb 1 (p.2).natAbs), .int .u64 (lb 2 (p.2).natAbs), .int .u64 (lb 3 (p.2).natAbs)]] W fun e w' => e = .returned (.int .i64 (cmpv p.1 p.2)) ∧ Below W.heap.size W w') := Lib.hid (fun W => rcmpint_z p.1 p.2 (inR_abs.1 (by unfold inR; omega)) (inR_abs.1 (by unfold inR; omega)) W)
            have hcm : ¬ 0 < cmpv p.1 p.2 := by unfold cmpv; split <;> (try split) <;> omega
            obtain ⟨q, hq⟩ : ∃ q, P[j]? = some q := ⟨P[j], List.getElem?_eq_getElem (by omega)⟩
            obtain ⟨g1, g2, g3⟩ := f5 j q rfl hq
            have hrq := (HLS.out.cells j (rsp (ofSp q)) (by rw [List.getElem?_map, hq]; rfl)).keep BW.out
            have hq1 := rs_hi' (p := q) (by omega)
            have hrq' : C12 wr b5 (0 + j * 12) ⟨(rsp (ofSp q)).hl, true, (rsp (ofSp q)).gl, (rsp (ofSp q)).xl, decide (q.2 < 0), q.2.natAbs⟩ := (rs_eq rfl hq1.1 rfl rfl hq1.2.1 hq1.2.2) ▸ hrq
            rw [Nat.zero_add] at hrq'
            obtain ⟨d0, d1, d2, d3, d4, d5, d6, d7, d8, d9, d10, d11⟩ := hrq'.twelve
            have HS1 : Hid (∀ W, Calls Tryd.prog 23 #[.agg #[.bool (decide (q.2 < 0)), .int .u64 (lb 0 (q.2).natAbs), .int .u64 (lb 1 (q.2).natAbs), .int .u64 (lb 2 (q.2).natAbs), .int .u64 (lb 3 (q.2).natAbs)], .bool true] W fun e w' => e = .returned (.tuple #[.agg #[.bool (decide (q.2 + 1 < 0)), .int .u64 (lb 0 (q.2 + 1).natAbs), .int .u64 (lb 1 (q.2 + 1).natAbs), .int .u64 (lb 2 (q.2 + 1).natAbs), .int .u64 (lb 3 (q.2 + 1).natAbs)], .bool true]) ∧ Below W.heap.size W w') := Lib.hid (fun W => by have := rstep_z q.2 (inR_abs.1 (by unfold inR; omega)) true (q.2 + 1) rfl W; unfold Znum at this; rw [if_pos (inR_abs.1 (by unfold inR; omega))] at this; exact this)
            have HC2 : Hid (∀ W, Calls Tryd.prog 27 #[.agg #[.bool (decide (q.2 + 1 < 0)), .int .u64 (lb 0 (q.2 + 1).natAbs), .int .u64 (lb 1 (q.2 + 1).natAbs), .int .u64 (lb 2 (q.2 + 1).natAbs), .int .u64 (lb 3 (q.2 + 1).natAbs)], .agg #[.bool (decide (p.1 < 0)), .int .u64 (lb 0 (p.1).natAbs), .int .u64 (lb 1 (p.1).natAbs), .int .u64 (lb 2 (p.1).natAbs), .int .u64 (lb 3 (p.1).natAbs)]] W fun e w' => e = .returned (.int .i64 (-1)) ∧ Below W.heap.size W w') := Lib.hid (fun W => by have := rcmpint_z (q.2 + 1) p.1 (inR_abs.1 (by unfold inR; omega)) (inR_abs.1 (by unfold inR; omega)) W; rw [show cmpv (q.2 + 1) p.1 = -1 by unfold cmpv; rw [if_pos (by omega)]] at this; exact this)
            clear hq hrq hrq' hq1 g1 g2 g3 d0 d1 d2 d3 d4 d5 d6
            clear hr hr' hl1 hh1 f1 f2 f3 f4 f5
            go_wp2_with fail
            ((with_reducible refine (HC1.out _).mono ?_); rintro e w3 ⟨rfl, hb⟩)
            have X3 := Row12.keep hb (Row12.new wr (.bool true) (.bool true) (.bool (decide (p.1 < 0))) (.int .u64 (lb 0 p.1.natAbs)) (.int .u64 (lb 1 p.1.natAbs)) (.int .u64 (lb 2 p.1.natAbs)) (.int .u64 (lb 3 p.1.natAbs)) (.bool (decide (p.2 < 0))) (.int .u64 (lb 0 p.2.natAbs)) (.int .u64 (lb 1 p.2.natAbs)) (.int .u64 (lb 2 p.2.natAbs)) (.int .u64 (lb 3 p.2.natAbs)))
            have B3 := Lib.hid (btr (bal BW.out _) hb)
            have u7' := cell_keep9 hb (alloc_cell9 d7 (.cells #[.bool true, .bool true, .bool (decide (p.1 < 0)), .int .u64 (lb 0 p.1.natAbs), .int .u64 (lb 1 p.1.natAbs), .int .u64 (lb 2 p.1.natAbs), .int .u64 (lb 3 p.1.natAbs), .bool (decide (p.2 < 0)), .int .u64 (lb 0 p.2.natAbs), .int .u64 (lb 1 p.2.natAbs), .int .u64 (lb 2 p.2.natAbs), .int .u64 (lb 3 p.2.natAbs)] 35))
            have u8' := cell_keep9 hb (alloc_cell9 d8 (.cells #[.bool true, .bool true, .bool (decide (p.1 < 0)), .int .u64 (lb 0 p.1.natAbs), .int .u64 (lb 1 p.1.natAbs), .int .u64 (lb 2 p.1.natAbs), .int .u64 (lb 3 p.1.natAbs), .bool (decide (p.2 < 0)), .int .u64 (lb 0 p.2.natAbs), .int .u64 (lb 1 p.2.natAbs), .int .u64 (lb 2 p.2.natAbs), .int .u64 (lb 3 p.2.natAbs)] 35))
            have u9' := cell_keep9 hb (alloc_cell9 d9 (.cells #[.bool true, .bool true, .bool (decide (p.1 < 0)), .int .u64 (lb 0 p.1.natAbs), .int .u64 (lb 1 p.1.natAbs), .int .u64 (lb 2 p.1.natAbs), .int .u64 (lb 3 p.1.natAbs), .bool (decide (p.2 < 0)), .int .u64 (lb 0 p.2.natAbs), .int .u64 (lb 1 p.2.natAbs), .int .u64 (lb 2 p.2.natAbs), .int .u64 (lb 3 p.2.natAbs)] 35))
            have u10' := cell_keep9 hb (alloc_cell9 d10 (.cells #[.bool true, .bool true, .bool (decide (p.1 < 0)), .int .u64 (lb 0 p.1.natAbs), .int .u64 (lb 1 p.1.natAbs), .int .u64 (lb 2 p.1.natAbs), .int .u64 (lb 3 p.1.natAbs), .bool (decide (p.2 < 0)), .int .u64 (lb 0 p.2.natAbs), .int .u64 (lb 1 p.2.natAbs), .int .u64 (lb 2 p.2.natAbs), .int .u64 (lb 3 p.2.natAbs)] 35))
            have u11' := cell_keep9 hb (alloc_cell9 d11 (.cells #[.bool true, .bool true, .bool (decide (p.1 < 0)), .int .u64 (lb 0 p.1.natAbs), .int .u64 (lb 1 p.1.natAbs), .int .u64 (lb 2 p.1.natAbs), .int .u64 (lb 3 p.1.natAbs), .bool (decide (p.2 < 0)), .int .u64 (lb 0 p.2.natAbs), .int .u64 (lb 1 p.2.natAbs), .int .u64 (lb 2 p.2.natAbs), .int .u64 (lb 3 p.2.natAbs)] 35))
            clear d7 d8 d9 d10 d11
            clear hb c0 c1 c2 c3 c4 c5' c6 c7 c8 c9 c10 c11
            obtain ⟨p0, p1, p2, p3, p4, p5, p6, p7, p8, p9, p10, p11⟩ := X3.parts
            go_wp2_with fail
            ((with_reducible refine (HS1.out _).mono ?_); rintro e w4 ⟨rfl, hb⟩)
            have X4 := Row12.keep hb X3
            have B4 := Lib.hid (btr B3.out hb)
            clear hb
            obtain ⟨r0, r1, r2, r3, r4, r5, r6, r7, r8, r9, r10, r11⟩ := (X4.alloc (.cells #[.bool (decide (q.2 + 1 < 0)), .int .u64 (lb 0 (q.2 + 1).natAbs), .int .u64 (lb 1 (q.2 + 1).natAbs), .int .u64 (lb 2 (q.2 + 1).natAbs), .int .u64 (lb 3 (q.2 + 1).natAbs)] 33)).parts
            go_wp2_with fail
            ((with_reducible refine (HC2.out _).mono ?_); rintro e w5 ⟨rfl, hb⟩)
            have B5 := Lib.hid (btr (bal B4.out _) hb)
            clear hb
            go_wp2
            go_roundw
            case rel => exact ⟨(j + 1) + 1, by omega, by go_num, B5.out⟩
            case measure => simp [intOf]; omega
    · have hge : ¬ (k : Int) < (P.length : Int) := by omega
      have B3 := Lib.hid (btr B2.out BW.out)
      clear HLS HIN hlt hk
      obtain ⟨la', lca', ba, offa, hva, hLA, hAle, hAmx, hASp, hA1⟩ := JA.out.keep B3.out
      injection hva with e1 e2 e3
      subst e1 e3
      have HLA := Lib.hid hLA; have HSP := Lib.hid hASp
      clear hLA hASp JA IA KM HFW hA1
      by_cases hA0 : 0 < A.length
      · obtain rfl : la = some ⟨ba, offa, none⟩ := HLA.out.la (by rw [List.length_map]; omega)
        obtain ⟨k1, hk1, hkk⟩ : ∃ k1 : Nat, k1 < A.length ∧ wrap64 ((IntKind.u64.wrap turn).tmod (A.length : Int)) = (k1 : Int) := turn_mod turn hA0 a12
        obtain ⟨i0, hi0, hz0, hz1, hz2⟩ := info9 info_span
        go_wp2
        by_cases hk0 : 0 < k1
        · have j1 : (0 : Int) ≤ (k1 : Int) := by omega
          have j2 : (k1 : Int) ≤ (A.length : Int) := by omega
          have j3 : (A.length : Int) ≤ (lca : Int) := by omega
          have j4 : (k1 : Int) ≤ (lca : Int) := by omega
          have j5 : ¬ lca = k1 := by omega
          go_region_held3 (fun _ => True) (trivial) (first | (refine step_append_lies _ (by rfl) _ _ _ (by rfl) w0.heap.size 35 i0 _ 12 88 und_spans hi0 hz0 hz1 hz2 rfl (by omega) (.slice (some ⟨wr.heap.size, 0, none⟩) 0 0) 0 [] (by rfl) ((own_mono9 (own_empty9 wr _ 12 _ rfl) B3.out.size).drew) ⟨ba, offa + k1 * 12, none⟩ (A.length - k1) (lca - k1) (csS ((A.map rsp).drop k1)) (by first | rfl | (simp [Act.eval]; done)) (by rw [csS_len, List.length_drop, List.length_map]) (((HLA.out.drop k1).keep (by repeat (first | (with_reducible exact Below.refl _ _) | (with_reducible refine bal ?_ _) | (with_reducible refine Below.drew ?_) | (with_reducible refine bdn ?_ _)))).news) (csS_one _) (by omega) (by unfold maxLen; omega) (by omega) (by have := B3.out.size; simp; omega) _ rfl ?_; intro g1 cap1 w1 hown1 hgr1 hat1 hlt1; have HO1 : Hid (w1.ownsRow w0.heap.size 35 12 (.slice (some ⟨g1, 0, none⟩) (A.length - k1) cap1) (A.length - k1) (csS ((A.map rsp).drop k1))) := Lib.hid (by rw [Nat.zero_add, List.nil_append] at hown1; exact hown1); have HG1 := Lib.hid (Below.grown (Below.drew (bal B3.out _)) hgr1 (by have := B3.out.size; simp; omega) (by intro q hq; cases hq; exact B3.out.size)); have HW1 := Lib.hid (Below.grown (Below.drew (bal (Below.refl wr.heap.size wr) _)) hgr1 (by simp) (by intro q hq; cases hq; exact Nat.le_refl _)); have hg1 : wr.heap.size ≤ g1 := hat1.elim (fun e => by cases e; exact Nat.le_refl _) (fun e => by subst e; simp); clear hown1 hgr1 hat1 hlt1) | (refine step_append_lies _ (by rfl) _ _ _ (by rfl) w0.heap.size 35 i0 _ 12 88 und_spans hi0 hz0 hz1 hz2 rfl (by omega) (.slice (some ⟨g1, 0, none⟩) (A.length - k1) cap1) (A.length - k1) _ (by first | rfl | (simp [Act.eval]; done)) (own_keep9 HO1.out (by repeat (first | (with_reducible exact Below.refl _ _) | (with_reducible refine bal ?_ _) | (with_reducible refine Below.drew ?_) | (with_reducible refine bdn ?_ _)))) ⟨ba, offa, none⟩ k1 lca (csS ((A.map rsp).take k1)) (by first | rfl | (simp [Act.eval]; done)) (by rw [csS_len, List.length_take, List.length_map, Nat.min_eq_left (by omega)]) (((HLA.out.take k1).keep (by repeat (first | (with_reducible exact HW1.out) | (with_reducible exact Below.refl _ _) | (with_reducible refine bal ?_ _) | (with_reducible refine Below.drew ?_) | (with_reducible refine bdn ?_ _)))).news) (csS_one _) (by omega) (by unfold maxLen; omega) (by omega) (by have := HG1.out.size; simp; omega) _ rfl ?_; intro g2 cap2 wz hown2 hgr2 hat2 hlt2; have HO2 := Lib.hid hown2; have HG2 := Lib.hid (Below.grown (by repeat (first | (with_reducible exact HG1.out) | (with_reducible exact Below.refl _ _) | (with_reducible refine bal ?_ _) | (with_reducible refine Below.drew ?_) | (with_reducible refine bdn ?_ _))) hgr2 (by have := HG1.out.size; simp; omega) (by intro q hq; cases hq; have := B3.out.size; show w0.heap.size ≤ g1; omega)); have HW2 := Lib.hid (Below.grown (by repeat (first | (with_reducible exact HW1.out) | (with_reducible exact Below.refl _ _) | (with_reducible refine bal ?_ _) | (with_reducible refine Below.drew ?_) | (with_reducible refine bdn ?_ _))) hgr2 (by have := HW1.out.size; simp; omega) (by intro q hq; cases hq; exact hg1)); have hg2 : Hid (wr.heap.size ≤ g2) := Lib.hid (hat2.elim (fun e => by cases e; exact hg1) (fun e => by subst e; have := HW1.out.size; simp; omega)); clear hown2 hgr2 hat2 hlt2))
          rw [show A.length - k1 + k1 = A.length by omega] at HO2 ⊢
          have HG2b : Hid (wr.heap.size ≤ g2) := hg2
          go_wp2_with ((at_builtin; refine wpList_append_lies _ rfl (.tmp 108) (.tmp 109) 22 rfl w0.heap.size 35 i0 (V12 false false false 0 0 0 0 false 0 0 0 0) 12 88 und_spans hi0 hz0 hz1 hz2 rfl (by decide) (.slice (some ⟨g2, 0, none⟩) A.length cap2) A.length _ rfl HO2.out ⟨ba, offa, none⟩ A.length lca (csS (A.map rsp)) rfl (by rw [csS_len, List.length_map]) ((HLA.out.keep HW2.out).news) (csS_one _) hA0 (by unfold maxLen; omega) (by omega) HG2.out.size _ rfl ?_; intro g3 cap3 wy hown3 hgr3 hat3 hlt3; have HO3 := Lib.hid hown3; have HG3 := Lib.hid (Below.grown HG2.out hgr3 HG2.out.size (by intro q hq; cases hq; have := B3.out.size; have := HG2b.out; show w0.heap.size ≤ g2; omega)); have HW3 := Lib.hid (Below.grown HW2.out hgr3 HW2.out.size (by intro q hq; cases hq; exact HG2b.out)); clear hown3 hgr3 hat3 hlt3))
          have IB : Hid (IS wy (.slice (some ⟨g3, 0, none⟩) (A.length + A.length) cap3) (fun x => memS A x) (A.length + A.length)) := Lib.hid ⟨_, in9_row HO3.out (rot_len A (by omega)).symm (rot_cs A k1) (rot_in HSP.out) (by rw [rot_len A (by omega)]; omega), by rw [rot_len A (by omega)]; omega, fun x _ _ => rot_mem A k1 x⟩
          clear HO1 HG1 HW1 HO2
          go_wp2_with fail
          have N5 := Lib.hid (HN5.out.keep (btr BW.out HW3.out))
          ((with_reducible refine (told9_true _ (tb_on HT.out HG3.out)).mono ?_); rintro e w5 ⟨rfl, hb⟩)
          have D5 := Lib.hid hb; clear hb
          go_wp2_with fail
          ((with_reducible refine (norm_is (IB.out.keep D5.out)).mono ?_); rintro e w6 ⟨v6, rfl, hN, hb⟩)
          have D6 := Lib.hid (btr D5.out hb); have N6 := Lib.hid hN; clear hb hN
          go_wp2_with fail
          ((with_reducible refine (rsame_ns N6.out (N5.out.keep D6.out) (fun _ _ _ => rfl)).mono ?_); rintro e w7 ⟨rfl, hb⟩)
          have D7 := Lib.hid (btr D6.out hb); clear hb
          go_wp2_with fail
          ((with_reducible refine (norm_is ((N5.out.keep D7.out).is (by omega))).mono ?_); rintro e w8 ⟨v8, rfl, hN, hb⟩)
          have D8 := Lib.hid (btr D7.out hb); have N8 := Lib.hid hN; clear hb hN
          go_wp2_with fail
          ((with_reducible refine (rsame_ns N8.out (N5.out.keep D8.out) (fun _ _ _ => rfl)).mono ?_); rintro e w9 ⟨rfl, hb⟩)
          have D9 := Lib.hid (btr D8.out hb); clear hb
          go_wp2
          go_ret
          exact ⟨rfl, btr HG3.out D9.out⟩
        · obtain rfl : k1 = 0 := by omega
          have j3 : (A.length : Int) ≤ (lca : Int) := by omega
          have j6 : (0 : Int) ≤ (A.length : Int) := by omega
          have j7 : (0 : Int) ≤ (lca : Int) := by omega
          go_region_held3 (fun _ => True) (trivial) (first | (refine step_append_lies _ (by rfl) _ _ _ (by rfl) w0.heap.size 35 i0 _ 12 88 und_spans hi0 hz0 hz1 hz2 rfl (by omega) (.slice (some ⟨wr.heap.size, 0, none⟩) 0 0) 0 [] (by rfl) ((own_mono9 (own_empty9 wr _ 12 _ rfl) B3.out.size).drew) ⟨ba, offa, none⟩ A.length lca (csS (A.map rsp)) (by first | rfl | (simp [Act.eval]; done)) (by rw [csS_len, List.length_map]) ((HLA.out.keep (by repeat (first | (with_reducible exact Below.refl _ _) | (with_reducible exact Below.refl _ _) | (with_reducible refine bal ?_ _) | (with_reducible refine Below.drew ?_) | (with_reducible refine bdn ?_ _)))).news) (csS_one _) (by omega) (by unfold maxLen; omega) (by omega) (by have := B3.out.size; simp; omega) _ rfl ?_; intro g2 cap2 wz hown1 hgr1 hat1 hlt1; have HO2 : Hid (wz.ownsRow w0.heap.size 35 12 (.slice (some ⟨g2, 0, none⟩) A.length cap2) A.length (csS ((A.map rsp).drop 0) ++ csS ((A.map rsp).take 0))) := Lib.hid (by rw [Nat.zero_add, List.nil_append] at hown1; rw [List.drop_zero, List.take_zero, show csS ([] : List RS) = [] from rfl, List.append_nil]; exact hown1); have HG2 := Lib.hid (Below.grown (Below.drew (bal B3.out _)) hgr1 (by have := B3.out.size; simp; omega) (by intro q hq; cases hq; exact B3.out.size)); have HW2 := Lib.hid (Below.grown (Below.drew (bal (Below.refl wr.heap.size wr) _)) hgr1 (by simp) (by intro q hq; cases hq; exact Nat.le_refl _)); have hg2 : Hid (wr.heap.size ≤ g2) := Lib.hid (hat1.elim (fun e => by cases e; exact Nat.le_refl _) (fun e => by subst e; simp)); have hcap : A.length ≤ cap2 := own_cap9 HO2.out; clear hown1 hgr1 hat1 hlt1))
          have HG2b : Hid (wr.heap.size ≤ g2) := hg2
          go_wp2_with ((at_builtin; refine wpList_append_lies _ rfl (.tmp 108) (.tmp 109) 22 rfl w0.heap.size 35 i0 (V12 false false false 0 0 0 0 false 0 0 0 0) 12 88 und_spans hi0 hz0 hz1 hz2 rfl (by decide) (.slice (some ⟨g2, 0, none⟩) A.length cap2) A.length _ rfl HO2.out ⟨ba, offa, none⟩ A.length lca (csS (A.map rsp)) rfl (by rw [csS_len, List.length_map]) ((HLA.out.keep HW2.out).news) (csS_one _) hA0 (by unfold maxLen; omega) (by omega) HG2.out.size _ rfl ?_; intro g3 cap3 wy hown3 hgr3 hat3 hlt3; have HO3 := Lib.hid hown3; have HG3 := Lib.hid (Below.grown HG2.out hgr3 HG2.out.size (by intro q hq; cases hq; have := B3.out.size; have := HG2b.out; show w0.heap.size ≤ g2; omega)); have HW3 := Lib.hid (Below.grown HW2.out hgr3 HW2.out.size (by intro q hq; cases hq; exact HG2b.out)); clear hown3 hgr3 hat3 hlt3))
          have IB : Hid (IS wy (.slice (some ⟨g3, 0, none⟩) (A.length + A.length) cap3) (fun x => memS A x) (A.length + A.length)) := Lib.hid ⟨_, in9_row HO3.out (rot_len A (by omega)).symm (rot_cs A 0) (rot_in HSP.out) (by rw [rot_len A (by omega)]; omega), by rw [rot_len A (by omega)]; omega, fun x _ _ => rot_mem A 0 x⟩
          clear HO2
          go_wp2_with fail
          have N5 := Lib.hid (HN5.out.keep (btr BW.out HW3.out))
          ((with_reducible refine (told9_true _ (tb_on HT.out HG3.out)).mono ?_); rintro e w5 ⟨rfl, hb⟩)
          have D5 := Lib.hid hb; clear hb
          go_wp2_with fail
          ((with_reducible refine (norm_is (IB.out.keep D5.out)).mono ?_); rintro e w6 ⟨v6, rfl, hN, hb⟩)
          have D6 := Lib.hid (btr D5.out hb); have N6 := Lib.hid hN; clear hb hN
          go_wp2_with fail
          ((with_reducible refine (rsame_ns N6.out (N5.out.keep D6.out) (fun _ _ _ => rfl)).mono ?_); rintro e w7 ⟨rfl, hb⟩)
          have D7 := Lib.hid (btr D6.out hb); clear hb
          go_wp2_with fail
          ((with_reducible refine (norm_is ((N5.out.keep D7.out).is (by omega))).mono ?_); rintro e w8 ⟨v8, rfl, hN, hb⟩)
          have D8 := Lib.hid (btr D7.out hb); have N8 := Lib.hid hN; clear hb hN
          go_wp2_with fail
          ((with_reducible refine (rsame_ns N8.out (N5.out.keep D8.out) (fun _ _ _ => rfl)).mono ?_); rintro e w9 ⟨rfl, hb⟩)
          have D9 := Lib.hid (btr D8.out hb); clear hb
          go_wp2
          go_ret
          exact ⟨rfl, btr HG3.out D9.out⟩
      · obtain rfl : A = [] := List.eq_nil_of_length_eq_zero (by omega)
        rcases la with _ | a0
        all_goals
          go_wp2
          go_region_held3 (fun _ => True) (trivial) (fail)
          go_wp2_with fail
          have N5 := Lib.hid (HN5.out.keep BW.out)
          ((with_reducible refine (told9_true _ (tb_on HT.out (by repeat (first | (with_reducible exact B3.out) | (with_reducible exact Below.refl _ _) | (with_reducible refine bal ?_ _) | (with_reducible refine Below.drew ?_) | (with_reducible refine bdn ?_ _))))).mono ?_); rintro e w5 ⟨rfl, hb⟩)
          have D5 : Hid (Below wr.heap.size wr w5) := Lib.hid (btr (by repeat (first | (with_reducible exact Below.refl _ _) | (with_reducible exact Below.refl _ _) | (with_reducible refine bal ?_ _) | (with_reducible refine Below.drew ?_) | (with_reducible refine bdn ?_ _))) hb); clear hb
          go_wp2_with fail
          ((with_reducible refine (norm_is (IS.of (in9_none w5 _))).mono ?_); rintro e w6 ⟨v6, rfl, hN, hb⟩)
          have D6 := Lib.hid (btr D5.out hb); have N6 := Lib.hid hN; clear hb hN
          go_wp2_with fail
          ((with_reducible refine (rsame_ns N6.out (N5.out.keep D6.out) (fun _ _ _ => rfl)).mono ?_); rintro e w7 ⟨rfl, hb⟩)
          have D7 := Lib.hid (btr D6.out hb); clear hb
          go_wp2_with fail
          ((with_reducible refine (norm_is ((N5.out.keep D7.out).is (by omega))).mono ?_); rintro e w8 ⟨v8, rfl, hN, hb⟩)
          have D8 := Lib.hid (btr D7.out hb); have N8 := Lib.hid hN; clear hb hN
          go_wp2_with fail
          ((with_reducible refine (rsame_ns N8.out (N5.out.keep D8.out) (fun _ _ _ => rfl)).mono ?_); rintro e w9 ⟨rfl, hb⟩)
          have D9 := Lib.hid (btr D8.out hb); clear hb
          go_wp2
          go_ret
          exact ⟨rfl, btr B3.out D9.out⟩
set_option maxRecDepth 100000 in
set_option maxHeartbeats 4000000 in
theorem forms_l (la : Option Addr) (n lca : Nat) (turn : Int) (w : World) (hT : Tb w) (h : ¬ n ≤ 12) :
    Calls Tryd.prog 5 #[.slice la n lca, .int .i64 turn] w fun e w' => e = .returned (.bool true) ∧ Below w.heap.size w w' := by
  have hfew := few_any la n lca none 0 0 w
  rw [decide_eq_false h, Bool.false_and] at hfew
  have HFW := Lib.hid hfew; have HT := Lib.hid hT
  clear hfew hT h
  go_enter Tryd.func5, Tryd.ntmps5
  go_wp2_with fail
  ((with_reducible refine HFW.out.mono ?_); rintro e w1 ⟨rfl, rfl⟩)
  go_wp2_with fail
  ((with_reducible refine (told9_true _ HT.out).mono ?_); rintro e w9 ⟨rfl, hb⟩)
  go_wp2
  go_ret
  exact ⟨rfl, hb⟩
set_option maxRecDepth 100000 in
set_option maxHeartbeats 4000000 in
theorem forms_m (la : Option Addr) (n lca : Nat) (turn : Int) (w : World) (hT : Tb w) (h : n ≤ 12)
    (km : ∀ W, Below w.heap.size w W → Calls Tryd.prog 11 #[.slice la n lca] W fun e w' => e = .returned (.bool false) ∧ Below W.heap.size W w') :
    Calls Tryd.prog 5 #[.slice la n lca, .int .i64 turn] w fun e w' => e = .returned (.bool true) ∧ Below w.heap.size w w' := by
  have hfew := few_any la n lca none 0 0 w
  rw [decide_eq_true h] at hfew
  have HFW := Lib.hid hfew; have HT := Lib.hid hT; have KM := Lib.hid km
  clear hfew hT h km
  go_enter Tryd.func5, Tryd.ntmps5
  go_wp2_with fail
  ((with_reducible refine HFW.out.mono ?_); rintro e w1 ⟨rfl, rfl⟩)
  go_wp2_with fail
  ((with_reducible refine (KM.out _ (Below.refl _ _)).mono ?_); rintro e w1 ⟨rfl, hb1⟩)
  have B1 := Lib.hid hb1
  clear hb1
  go_wp2_with fail
  ((with_reducible refine (told9_true _ (tb_on HT.out B1.out)).mono ?_); rintro e w9 ⟨rfl, hb⟩)
  go_wp2
  go_ret
  exact ⟨rfl, btr B1.out hb⟩
/-- entrepotlaw9.SpanForms. -/
theorem forms_any (la : Option Addr) (lca : Nat) (l : List RS) (bb off : Nat) (turn : Int) (w : World) (hT : Tb w) (hK : Ls w la l bb off) (hx : ∀ r ∈ l, r.xl < 2 ^ 256 ∧ r.xh < 2 ^ 256) (c1 : l.length ≤ lca ∧ lca ≤ maxLen) :
    Calls Tryd.prog 5 #[.slice la l.length lca, .int .i64 turn] w fun e w' => e = .returned (.bool true) ∧ Below w.heap.size w w' := by
  by_cases h : l.length ≤ 12
  · have f := fun W hW => rlmay la lca l bb off W (hK.keep hW) hx
    cases h1 : mayL l with
    | false => rw [h1] at f; exact forms_m la l.length lca turn w hT h f
    | true =>
      rw [h1] at f
      obtain ⟨A, rfl, hA⟩ := in9_of hK c1.1 c1.2 hx h1
      rw [List.length_map] at *
      exact forms_main la lca A turn w hT hA h f
  · exact forms_l la l.length lca turn w hT h
end Go.Proofs.YtckahhgiobamcaaDoor
