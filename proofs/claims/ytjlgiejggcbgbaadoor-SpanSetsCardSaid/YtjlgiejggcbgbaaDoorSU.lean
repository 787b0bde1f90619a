/-
  SpRD SpRE SpRF SpRG SpSetsW SpRH, one behind the other: a claim holds at most 60 files.
-/
import Derived.Test.YtjlgiejggcbgbaaDoorSX
import Derived.Test.YtjlgiejggcbgbaaDoorSpRB
section
namespace Go.Proofs.YtjlgiejggcbgbaaDoor
open Go.RowKit Go.Shelf
open Go.Sort (grow)
attribute [local go_sem ↓] eql_nat neq_nat eql_int5 neq_int5

theorem in9_row {W : World} {base n : Nat} {v : Value} {B : List Sp} {xs : List Value} (h : W.ownsRow base 35 12 v n xs) (hn : n = B.length) (hx : xs = csS (B.map rsp)) (hS : ∀ s ∈ B, SpR s) (h1 : B.length ≤ 1000) : In9 W v B := by
  subst hx
  have hb : Bs W base v (B.map rsp) := by
    unfold Bs
    rw [List.length_map, ← hn]
    exact h
  obtain ⟨la, lc, bb, e, hL, h2, h3, _⟩ := hb.form
  rw [List.length_map] at e h2
  exact ⟨la, lc, bb, 0, e, hL, h2, h3, hS, h1⟩
theorem own_emptyR (W : World) (e : TypeId) (n H base : Nat) (h : W.heap.size = H) (hb : base ≤ H) : (W.alloc (.cells #[] e)).ownsRow base e n (.slice (some ⟨H, 0, none⟩) 0 0) 0 [] := own_mono9 (own_empty9 W e n H h) hb
/-- What is said of the reference's Norm. -/
def NormC : Prop := ∀ (la : Option Addr) (lca : Nat) (A : List Sp) (w : World), In9 w (.slice la A.length lca) A → A.length ≤ 30 → Calls Tryd.prog 10 #[.slice la A.length lca] w (Sets w (fun x => memS A x) A.length)
theorem joined_isN {A B : List Sp} {P Q S : List (Int × Int)} (hP : IsN P fun x => memS A x) (hQ : IsN Q fun x => memS B x) (hS : IsN S fun x => memS (P.map ofSp ++ Q.map ofSp) x) : IsN S fun x => memS A x || memS B x :=
  ⟨hS.1, fun x h1 h2 => by
    rw [hS.2 x h1 h2]
    show memS (P.map ofSp ++ Q.map ofSp) x = (memS A x || memS B x)
    rw [memS_append, memS_of, memS_of, hP.2 x h1 h2, hQ.2 x h1 h2]⟩
theorem two_cs (P Q : List (Int × Int)) : csS (P.map fun p => rsp (ofSp p)) ++ csS (Q.map fun p => rsp (ofSp p)) = csS ((P.map ofSp ++ Q.map ofSp).map rsp) := by rw [List.map_append, csS_app, List.map_map, List.map_map]; rfl
theorem two_rng {A B : List Sp} {P Q : List (Int × Int)} (hP : IsN P fun x => memS A x) (hQ : IsN Q fun x => memS B x) : ∀ s ∈ P.map ofSp ++ Q.map ofSp, SpR s := fun s hs => by
  rcases List.mem_append.1 hs with hs | hs
  · exact hP.rng s hs
  · exact hQ.rng s hs
set_option maxRecDepth 100000 in
set_option maxHeartbeats 8000000 in
/-- The reference's Or. -/
theorem ror_in (hN : NormC) {w : World} {a b : Value} {A B : List Sp} (hA : In9 w a A) (hB : In9 w b B) (a12 : A.length ≤ 12) (b12 : B.length ≤ 12) : Calls Tryd.prog 14 #[a, b] w (Sets w (fun x => memS A x || memS B x) (A.length + B.length)) := by
  obtain ⟨i0, hi0, hz0, hz1, hz2⟩ := info9 info_span
  have KM := Lib.hid (rmay_in hA); have KN := Lib.hid (rmay_in hB); have HN := Lib.hid hN
  have HA := Lib.hid hA; have HB := Lib.hid hB
  obtain ⟨la, lca, ba, oa, rfl, _⟩ := hA
  obtain ⟨la2, lcb, bb, ob, rfl, _⟩ := hB
  have NA := Lib.hid (fun W (hW : Below w.heap.size w W) => HN.out la lca A W (HA.out.keep hW) (by omega))
  have NB := Lib.hid (fun W (hW : Below w.heap.size w W) => HN.out la2 lcb B W (HB.out.keep hW) (by omega))
  clear hN
  go_enter Tryd.func14, Tryd.ntmps14
  go_wp2_with fail
  ((with_reducible refine (KM.out _ (Below.refl _ _)).mono ?_); rintro e w1 ⟨rfl, hb⟩)
  have B1 := Lib.hid hb
  clear hb
  go_wp2_with fail
  ((with_reducible refine (KN.out _ B1.out).mono ?_); rintro e w2 ⟨rfl, hb⟩)
  have B2 := Lib.hid (btr B1.out hb)
  have hs2 : w.heap.size ≤ w2.heap.size := B2.out.size
  clear hb
  go_wp2_with fail
  ((with_reducible refine (NA.out _ (bal B2.out _)).mono ?_); rintro e w3 ⟨v3, rfl, P, hP, hNP, hlP, hb⟩)
  have E3 := Lib.hid (own_keep9 (own_emptyR w2 35 12 w2.heap.size w.heap.size rfl hs2) hb)
  have B3 := Lib.hid (btr (bal B2.out _) hb)
  have hs3 : w.heap.size ≤ w3.heap.size := B3.out.size
  obtain ⟨lp, cp, bp, hv3, hLP, hnP, hmP, _⟩ := hP.form
  rw [List.length_map] at hv3 hnP
  subst hv3
  have HLP := Lib.hid hLP; have HNP := Lib.hid hNP
  have HLPn := Lib.hid hlP
  have hP12 : P.length ≤ 12 := by omega
  clear hb hP hLP hNP hlP
  by_cases hp0 : 0 < P.length
  · obtain rfl : lp = some ⟨bp, 0, none⟩ := HLP.out.la (by rw [List.length_map]; exact hp0)
    go_wp2_with (at_builtin; refine wpList_append_lies _ rfl (.tmp 13) (.tmp 15) 22 rfl w.heap.size 35 i0 (V12 false false false 0 0 0 0 false 0 0 0 0) 12 88 und_spans hi0 hz0 hz1 hz2 rfl (by decide) (.slice (some ⟨w2.heap.size, 0, none⟩) 0 0) 0 _ rfl E3.out ⟨bp, 0, none⟩ P.length cp (csS (P.map fun p => rsp (ofSp p))) rfl (by rw [csS_len, List.length_map]) HLP.out.news (csS_one _) hp0 (by unfold maxLen; omega) (by omega) hs3 _ rfl ?_; intro g4 cap4 w4 hown4 hgr4 hat4 hlt4; have O4 : Hid (w4.ownsRow w.heap.size 35 12 (.slice (some ⟨g4, 0, none⟩) P.length cap4) P.length (csS (P.map fun p => rsp (ofSp p)))) := Lib.hid (by rw [Nat.zero_add, List.nil_append] at hown4; exact hown4); have B4 := Lib.hid (Below.grown B3.out hgr4 hs3 (fun q hq => (own_base9 E3.out q hq).1)); clear hown4 hgr4 hat4 hlt4)
    go_wp2_with fail
    ((with_reducible refine (NB.out _ B4.out).mono ?_); rintro e w5 ⟨v5, rfl, Q, hQ, hNQ, hlQ, hb⟩)
    have E5 := Lib.hid (own_keep9 O4.out hb)
    have B5 := Lib.hid (btr B4.out hb)
    have hs5 : w.heap.size ≤ w5.heap.size := B5.out.size
    obtain ⟨lq, cq, bq, hv5, hLQ, hnQ, hmQ, _⟩ := hQ.form
    rw [List.length_map] at hv5 hnQ
    subst hv5
    have HLQ := Lib.hid hLQ; have HNQ := Lib.hid hNQ
    have HLQn := Lib.hid hlQ
    have hQ12 : Q.length ≤ 12 := by omega
    clear hb hQ hLQ hNQ hlQ
    by_cases hq0 : 0 < Q.length
    · obtain rfl : lq = some ⟨bq, 0, none⟩ := HLQ.out.la (by rw [List.length_map]; exact hq0)
      go_wp2_with (at_builtin; refine wpList_append_lies _ rfl (.tmp 16) (.tmp 18) 22 rfl w.heap.size 35 i0 (V12 false false false 0 0 0 0 false 0 0 0 0) 12 88 und_spans hi0 hz0 hz1 hz2 rfl (by decide) (.slice (some ⟨g4, 0, none⟩) P.length cap4) P.length _ rfl E5.out ⟨bq, 0, none⟩ Q.length cq (csS (Q.map fun p => rsp (ofSp p))) rfl (by rw [csS_len, List.length_map]) HLQ.out.news (csS_one _) hq0 (by unfold maxLen; omega) (by omega) hs5 _ rfl ?_; intro g6 cap6 w6 hown6 hgr6 hat6 hlt6; have O6 := Lib.hid hown6; have B6 := Lib.hid (Below.grown B5.out hgr6 hs5 (fun q hq => (own_base9 E5.out q hq).1)); clear hown6 hgr6 hat6 hlt6)
      have IN : In9 w6 _ (P.map ofSp ++ Q.map ofSp) := in9_row O6.out (by rw [List.length_append, List.length_map, List.length_map]; first | done | simp) (by exact two_cs P Q) (two_rng HNP.out HNQ.out) (by have h1 := HLPn.out; have h2 := HLQn.out; rw [List.length_append, List.length_map, List.length_map]; omega)
      obtain ⟨lx, cx, bx, ox, hvx, _⟩ := id IN
      have KX := HN.out lx cx _ _ (by rw [← hvx]; exact IN) (by have h1 := HLPn.out; have h2 := HLQn.out; rw [List.length_append, List.length_map, List.length_map]; omega)
      rw [← hvx] at KX
      have KX := Lib.hid KX
      clear IN hvx
      go_wp2_with fail
      ((with_reducible refine KX.out.mono ?_); rintro e w8 ⟨v8, rfl, S, hS, hNS, hlS, hb⟩)
      have HS := Lib.hid hS; have HNS := Lib.hid hNS; have HLS : Hid (S.length ≤ A.length + B.length) := Lib.hid (by have h1 := HLPn.out; have h2 := HLQn.out; rw [List.length_append, List.length_map, List.length_map] at hlS; omega)
      have B8 := Lib.hid (btr B6.out hb)
      clear hS hNS hlS hb
      go_wp2
      go_ret
      exact ⟨_, rfl, S, own_mono9 HS.out B6.out.size, joined_isN HNP.out HNQ.out HNS.out, HLS.out, B8.out⟩
    · have hq1 : Q.length = 0 := by omega
      have HQE : Hid (Q = []) := Lib.hid (List.eq_nil_of_length_eq_zero hq1)
      simp only [hq1]
      clear hq1 hq0 hQ12 hnQ
      have hcap := own_cap9 E5.out
      rcases lq with _ | aq
      all_goals
        have IN : In9 w5 _ (P.map ofSp ++ Q.map ofSp) := in9_row E5.out (by rw [List.length_append, List.length_map, List.length_map]; rw [HQE.out]; first | done | simp) (by rw [← two_cs, HQE.out]; exact (List.append_nil _).symm) (two_rng HNP.out HNQ.out) (by have h1 := HLPn.out; have h2 := HLQn.out; rw [List.length_append, List.length_map, List.length_map]; omega)
        obtain ⟨lx, cx, bx, ox, hvx, _⟩ := id IN
        have KX := HN.out lx cx _ _ (by rw [← hvx]; exact IN) (by have h1 := HLPn.out; have h2 := HLQn.out; rw [List.length_append, List.length_map, List.length_map]; omega)
        rw [← hvx] at KX
        have KX := Lib.hid KX
        clear IN hvx
        go_wp2_with fail
        ((with_reducible refine KX.out.mono ?_); rintro e w8 ⟨v8, rfl, S, hS, hNS, hlS, hb⟩)
        have HS := Lib.hid hS; have HNS := Lib.hid hNS; have HLS : Hid (S.length ≤ A.length + B.length) := Lib.hid (by have h1 := HLPn.out; have h2 := HLQn.out; rw [List.length_append, List.length_map, List.length_map] at hlS; omega)
        have B8 := Lib.hid (btr B5.out hb)
        clear hS hNS hlS hb
        go_wp2
        go_ret
        exact ⟨_, rfl, S, own_mono9 HS.out B5.out.size, joined_isN HNP.out HNQ.out HNS.out, HLS.out, B8.out⟩
  · have hp1 : P.length = 0 := by omega
    have HPE : Hid (P = []) := Lib.hid (List.eq_nil_of_length_eq_zero hp1)
    simp only [hp1]
    clear hp1 hp0 hP12 hnP
    rcases lp with _ | ap
    all_goals
      go_wp2_with fail
      ((with_reducible refine (NB.out _ B3.out).mono ?_); rintro e w5 ⟨v5, rfl, Q, hQ, hNQ, hlQ, hb⟩)
      have E5 := Lib.hid (own_keep9 E3.out hb)
      have B5 := Lib.hid (btr B3.out hb)
      have hs5 : w.heap.size ≤ w5.heap.size := B5.out.size
      obtain ⟨lq, cq, bq, hv5, hLQ, hnQ, hmQ, _⟩ := hQ.form
      rw [List.length_map] at hv5 hnQ
      subst hv5
      have HLQ := Lib.hid hLQ; have HNQ := Lib.hid hNQ
      have HLQn := Lib.hid hlQ
      have hQ12 : Q.length ≤ 12 := by omega
      clear hb hQ hLQ hNQ hlQ
      by_cases hq0 : 0 < Q.length
      · obtain rfl : lq = some ⟨bq, 0, none⟩ := HLQ.out.la (by rw [List.length_map]; exact hq0)
        go_wp2_with (at_builtin; refine wpList_append_lies _ rfl (.tmp 16) (.tmp 18) 22 rfl w.heap.size 35 i0 (V12 false false false 0 0 0 0 false 0 0 0 0) 12 88 und_spans hi0 hz0 hz1 hz2 rfl (by decide) (.slice (some ⟨w2.heap.size, 0, none⟩) 0 0) 0 _ rfl E5.out ⟨bq, 0, none⟩ Q.length cq (csS (Q.map fun p => rsp (ofSp p))) rfl (by rw [csS_len, List.length_map]) HLQ.out.news (csS_one _) hq0 (by unfold maxLen; omega) (by omega) hs5 _ rfl ?_; intro g6 cap6 w6 hown6 hgr6 hat6 hlt6; have O6 := Lib.hid (by rw [Nat.zero_add] at hown6; exact hown6 : w6.ownsRow w.heap.size 35 12 (.slice (some ⟨g6, 0, none⟩) Q.length cap6) Q.length _); have B6 := Lib.hid (Below.grown B5.out hgr6 hs5 (fun q hq => (own_base9 E5.out q hq).1)); clear hown6 hgr6 hat6 hlt6)
        have IN : In9 w6 _ (P.map ofSp ++ Q.map ofSp) := in9_row O6.out (by rw [List.length_append, List.length_map, List.length_map]; rw [HPE.out]; first | done | simp) (by rw [← two_cs, HPE.out]; rfl) (two_rng HNP.out HNQ.out) (by have h1 := HLPn.out; have h2 := HLQn.out; rw [List.length_append, List.length_map, List.length_map]; omega)
        obtain ⟨lx, cx, bx, ox, hvx, _⟩ := id IN
        have KX := HN.out lx cx _ _ (by rw [← hvx]; exact IN) (by have h1 := HLPn.out; have h2 := HLQn.out; rw [List.length_append, List.length_map, List.length_map]; omega)
        rw [← hvx] at KX
        have KX := Lib.hid KX
        clear IN hvx
        go_wp2_with fail
        ((with_reducible refine KX.out.mono ?_); rintro e w8 ⟨v8, rfl, S, hS, hNS, hlS, hb⟩)
        have HS := Lib.hid hS; have HNS := Lib.hid hNS; have HLS : Hid (S.length ≤ A.length + B.length) := Lib.hid (by have h1 := HLPn.out; have h2 := HLQn.out; rw [List.length_append, List.length_map, List.length_map] at hlS; omega)
        have B8 := Lib.hid (btr B6.out hb)
        clear hS hNS hlS hb
        go_wp2
        go_ret
        exact ⟨_, rfl, S, own_mono9 HS.out B6.out.size, joined_isN HNP.out HNQ.out HNS.out, HLS.out, B8.out⟩
      · have hq1 : Q.length = 0 := by omega
        have HQE : Hid (Q = []) := Lib.hid (List.eq_nil_of_length_eq_zero hq1)
        simp only [hq1]
        clear hq1 hq0 hQ12 hnQ
        have hcap := own_cap9 E5.out
        rcases lq with _ | aq
        all_goals
          have IN : In9 w5 _ (P.map ofSp ++ Q.map ofSp) := in9_row E5.out (by rw [List.length_append, List.length_map, List.length_map]; rw [HPE.out]; rw [HQE.out]; first | done | simp) (by rw [← two_cs, HPE.out, HQE.out]; rfl) (two_rng HNP.out HNQ.out) (by have h1 := HLPn.out; have h2 := HLQn.out; rw [List.length_append, List.length_map, List.length_map]; omega)
          obtain ⟨lx, cx, bx, ox, hvx, _⟩ := id IN
          have KX := HN.out lx cx _ _ (by rw [← hvx]; exact IN) (by have h1 := HLPn.out; have h2 := HLQn.out; rw [List.length_append, List.length_map, List.length_map]; omega)
          rw [← hvx] at KX
          have KX := Lib.hid KX
          clear IN hvx
          go_wp2_with fail
          ((with_reducible refine KX.out.mono ?_); rintro e w8 ⟨v8, rfl, S, hS, hNS, hlS, hb⟩)
          have HS := Lib.hid hS; have HNS := Lib.hid hNS; have HLS : Hid (S.length ≤ A.length + B.length) := Lib.hid (by have h1 := HLPn.out; have h2 := HLQn.out; rw [List.length_append, List.length_map, List.length_map] at hlS; omega)
          have B8 := Lib.hid (btr B5.out hb)
          clear hS hNS hlS hb
          go_wp2
          go_ret
          exact ⟨_, rfl, S, own_mono9 HS.out B5.out.size, joined_isN HNP.out HNQ.out HNS.out, HLS.out, B8.out⟩
end Go.Proofs.YtjlgiejggcbgbaaDoor
end
section
namespace Go.Proofs.YtjlgiejggcbgbaaDoor
open Go.RowKit Go.Shelf
open Go.Sort (grow)
attribute [local go_sem ↓] eql_nat neq_nat eql_int5 neq_int5

/-- What the turning round has done. -/
structure Nt (W : World) (base H : Nat) (v : Value) (P : List (Int × Int)) (j : Nat) (Q : List (Int × Int)) (t : Int) (mb : Bool) : Prop where
  row : Bs W base v (Q.map fun p => rsp (ofSp p))
  blk : Row5 W H (.bool (decide (t < 0))) (.int .u64 (lb 0 (t).natAbs)) (.int .u64 (lb 1 (t).natAbs)) (.int .u64 (lb 2 (t).natAbs)) (.int .u64 (lb 3 (t).natAbs))
  ne : v.ownBlock ≠ some H
  rng : -topM ≤ t ∧ t ≤ topM
  all : Q ++ (if mb = true then compl t (P.drop j) else []) = compl (-topM) P
  len : Q.length ≤ j
theorem Nt.keep {W W' : World} {base H : Nat} {v : Value} {P : List (Int × Int)} {j : Nat} {Q : List (Int × Int)} {t : Int} {mb : Bool} (h : Nt W base H v P j Q t mb) (hb : Below W.heap.size W W') : Nt W' base H v P j Q t mb := ⟨h.row.keep hb, Row5.keep hb h.blk, h.ne, h.rng, h.all, h.len⟩
theorem compl_cons (a : Int) (p : Int × Int) (r : List (Int × Int)) : compl a (p :: r) = (if a ≤ p.1 - 1 then [(a, p.1 - 1)] else []) ++ (if p.2 < topM then compl (p.2 + 1) r else []) := rfl
theorem nt_all {P Q : List (Int × Int)} {j : Nat} {t u : Int} {mb : Bool} {p : Int × Int} {Q' : List (Int × Int)} (h : Q ++ (if true = true then compl t (P.drop j) else []) = compl (-topM) P) (hp : P[j]? = some p) (hQ : Q' = Q ++ (if t ≤ p.1 - 1 then [(t, p.1 - 1)] else [])) (hm : mb = decide (p.2 < topM)) (hu : mb = true → u = p.2 + 1) : Q' ++ (if mb = true then compl u (P.drop (j + 1)) else []) = compl (-topM) P := by
  rw [if_pos rfl, drop_at hp] at h
  rw [compl_cons] at h
  rw [← h, hQ, List.append_assoc]
  congr 2
  subst hm
  by_cases h2 : p.2 < topM
  · rw [if_pos h2, if_pos (decide_eq_true h2), hu (decide_eq_true h2)]
  · rw [if_neg h2, if_neg (by simpa using h2)]
theorem Ls.grown9 {w w' : World} {r : Option Nat} {la : Option Addr} {l : List RS} {bb off : Nat} (h : Ls w la l bb off) (hg : w.grownBy w' r) (hne : some bb ≠ r) : Ls w' la l bb off :=
  ⟨h.la, fun i s hi k u hu => by
    have hc := h.cells i s hi k u hu
    have hlt := block_lt_of_cell hc
    have : w'.heap[bb]? = w.heap[bb]? := hg.block bb hlt hne
    unfold World.cell? at hc ⊢
    simp only [this]
    exact hc, h.len⟩
theorem Row5.grown9 {W W' : World} {b : Nat} {r : Option Nat} {g v0 v1 v2 v3 : Value} (h : Row5 W b g v0 v1 v2 v3) (hg : W.grownBy W' r) (hne : some b ≠ r) : Row5 W' b g v0 v1 v2 v3 := (hg.block b h.lt hne).trans h
theorem Ls.set9 {w : World} {b i : Nat} {u : Value} {la : Option Addr} {l : List RS} {bb off : Nat} (h : Ls w la l bb off) (hne : bb ≠ b) : Ls (w.setCell ⟨b, i, none⟩ u) la l bb off :=
  ⟨h.la, fun k s hk m v hv => (World.cell?_setCell_far w ⟨b, i, none⟩ ⟨bb, _, none⟩ u (fun e => hne e.symm)).trans (h.cells k s hk m v hv), h.len⟩
theorem Iz_none : Iz 0 = .agg #[.bool false, .int .u64 0, .int .u64 0, .int .u64 0, .int .u64 0] := Iz_zero9
theorem row_zero {W : World} {H : Nat} (h : Row5 W H (.bool false) (.int .u64 0) (.int .u64 0) (.int .u64 0) (.int .u64 0)) : Row5 W H (.bool (decide ((0 : Int) < 0))) (.int .u64 (lb 0 ((0 : Int)).natAbs)) (.int .u64 (lb 1 ((0 : Int)).natAbs)) (.int .u64 (lb 2 ((0 : Int)).natAbs)) (.int .u64 (lb 3 ((0 : Int)).natAbs)) := by
  have e : (0 : Int).natAbs = 0 := rfl
  rw [e, lb_zero, lb_zero, lb_zero, lb_zero]
  exact h
set_option maxRecDepth 100000 in
set_option maxHeartbeats 16000000 in
/-- The reference's Not. -/
theorem rnot_in (hN : NormC) {w : World} {a : Value} {A : List Sp} (hA : In9 w a A) (a12 : A.length ≤ 12) : Calls Tryd.prog 12 #[a] w (Sets w (fun x => !memS A x) (A.length + 1)) := by
  obtain ⟨i0, hi0, hz0, hz1, hz2⟩ := info9 info_span
  have KM := Lib.hid (rmay_in hA); have HN := Lib.hid hN
  have HA := Lib.hid hA
  obtain ⟨la, lca, ba, oa, rfl, _⟩ := hA
  have NA := Lib.hid (fun W (hW : Below w.heap.size w W) => HN.out la lca A W (HA.out.keep hW) (by omega))
  have ht := topM_pos
  have KE := Lib.hid (fun W => rend_any true W); have KF := Lib.hid (fun W => rend_any false W)
  clear hN
  go_enter Tryd.func12, Tryd.ntmps12
  go_wp2_with fail
  ((with_reducible refine (KM.out _ (Below.refl _ _)).mono ?_); rintro e w1 ⟨rfl, hb⟩)
  have B1 := Lib.hid hb
  clear hb
  go_wp2_with fail
  ((with_reducible refine (KE.out _).mono ?_); rintro e w2 ⟨rfl, o, rfl⟩)
  have R2 := Row5.new (w1.alloc o) (.bool true) (.int .u64 18446744073709551615) (.int .u64 18446744073709551615) (.int .u64 18446744073709551615) (.int .u64 18446744073709551615)
  rw [size_alloc9] at R2
  have B2 := Lib.hid (bal (bal B1.out o) (.cells #[.bool true, .int .u64 18446744073709551615, .int .u64 18446744073709551615, .int .u64 18446744073709551615, .int .u64 18446744073709551615] 33))
  go_wp2_with fail
  ((with_reducible refine (NA.out _ B2.out).mono ?_); rintro e w3 ⟨v3, rfl, P, hP, hNP, hlP, hb⟩)
  have R3 := Lib.hid (Row5.keep hb R2)
  have B3 := Lib.hid (btr B2.out hb)
  have hs3 : w.heap.size ≤ w3.heap.size := B3.out.size
  have hH4 : w.heap.size ≤ w1.heap.size + 1 := by have := B1.out.size; omega
  have hH3 : w1.heap.size + 1 < w3.heap.size := R3.out.lt
  obtain ⟨lp, cp, bp, hv3, hLP, hnP, hmP, hxP⟩ := hP.form
  have hbp : lp = none ∨ ¬ w1.heap.size + 1 = bp ∧ bp < w3.heap.size := by
    rcases hxP with ⟨_, h2⟩ | ⟨_, h2, h3⟩
    · exact .inl h2
    · refine .inr ⟨?_, h3⟩
      simp at h2
      omega
  clear hxP
  rw [List.length_map] at hv3 hnP
  subst hv3
  have HLP := Lib.hid hLP; have HNP := Lib.hid hNP; have HLL := Lib.hid hlP
  have hP12 : P.length ≤ 12 := by omega
  have HST : Hid (Nt w3 w3.heap.size (w1.heap.size + 1) (.slice none 0 0) P 0 [] (-topM) true) := Lib.hid ⟨Bs.nil _ _, (by
    obtain ⟨t0, t1, t2, t3⟩ := topM_lb
    rw [Int.natAbs_neg, t0, t1, t2, t3, decide_eq_true (show -topM < 0 by omega)]
    exact R3.out), (fun h => by cases h), (by omega), rfl, Nat.le_refl _⟩
  clear hb hP hLP hNP hlP R2
  go_wp2
  go_loopw [3, 5, 7] (fun v mo i wr => ∃ (j : Nat) (Q : List (Int × Int)) (t : Int) (mb : Bool), j ≤ P.length ∧ i = .int .i64 j ∧ mo = .bool mb ∧ Hid (w3.heap.size ≤ wr.heap.size) ∧ Hid (Below w.heap.size w wr) ∧ Hid (Ls wr lp (P.map fun p => rsp (ofSp p)) bp 0) ∧ Hid (Nt wr w3.heap.size (w1.heap.size + 1) v P j Q t mb)) (fun _ _ i _ => P.length - (intOf i).toNat)
  case atStart => exact ⟨0, [], -topM, true, Nat.zero_le _, rfl, rfl, Nat.le_refl _, B3.out, HLP.out, HST.out⟩
  case round =>
    obtain ⟨j, Q, t, mb, hj, rfl, rfl, SZ, BX, LP, NT⟩ := hrel
    by_cases hlt : j < P.length
    · cases mb with
      | false =>
        have HQE : Hid (Q = compl (-topM) P) := Lib.hid (by have := NT.out.all; simpa using this)
        have HLE : Hid (Q.length ≤ A.length + 1) := Lib.hid (by rw [HQE.out]; have h1 := compl_len P (-topM); have h2 := HLL.out; omega)
        go_wp2
        go_ret
        exact ⟨_, rfl, Q, own_mono9 NT.out.row hs3, by rw [HQE.out]; exact compl_isN HNP.out, HLE.out, BX.out⟩
      | true =>
        obtain ⟨p, hp⟩ : ∃ p, P[j]? = some p := ⟨P[j], List.getElem?_eq_getElem hlt⟩
        have hr := LP.out.cells j (rsp (ofSp p)) (by rw [List.getElem?_map, hp]; rfl)
        obtain rfl : lp = some ⟨bp, 0, none⟩ := LP.out.la (by rw [List.length_map]; omega)
        obtain ⟨hbH, hb3⟩ : ¬ w1.heap.size + 1 = bp ∧ bp < w3.heap.size := hbp.resolve_left (by simp)
        obtain ⟨r1, r2, r3⟩ := sep_rng (Int.le_refl _) HNP.out.1 p (List.mem_of_getElem? hp)
        have HP := Lib.hid hp
        have k3 := fun W => rends_any (ofSp p) W
        rw [loE_of, hiE_of] at k3
        obtain ⟨sl, sh, gl, xl, gh, xh, hrs⟩ : ∃ hl hh gl xl gh xh, rsp (ofSp p) = ⟨hl, hh, gl, xl, gh, xh⟩ := ⟨_, _, _, _, _, _, rfl⟩
        rw [hrs] at hr k3
        simp only [RS.val] at k3
        have K3 : Hid (∀ W, Calls Tryd.prog 25 #[V12 sl sh gl (lb 0 xl) (lb 1 xl) (lb 2 xl) (lb 3 xl) gh (lb 0 xh) (lb 1 xh) (lb 2 xh) (lb 3 xh)] W fun e w' => e = .returned (.tuple #[.agg #[.bool (decide (p.1 < 0)), .int .u64 (lb 0 (p.1).natAbs), .int .u64 (lb 1 (p.1).natAbs), .int .u64 (lb 2 (p.1).natAbs), .int .u64 (lb 3 (p.1).natAbs)], .agg #[.bool (decide (p.2 < 0)), .int .u64 (lb 0 (p.2).natAbs), .int .u64 (lb 1 (p.2).natAbs), .int .u64 (lb 2 (p.2).natAbs), .int .u64 (lb 3 (p.2).natAbs)]]) ∧ Below W.heap.size W w') := Lib.hid k3
        have KL := Lib.hid (fun W => rstep_z p.1 (inR_abs.1 (by unfold inR; omega)) false (p.1 - 1) rfl W)
        have KT := Lib.hid (fun W => rstep_z p.2 (inR_abs.1 (by unfold inR; omega)) true (p.2 + 1) rfl W)
        rw [Nat.zero_add] at hr
        obtain ⟨c0, c1, c2, c3, c4, c5, c6, c7, c8, c9, c10, c11⟩ := hr.twelve
        have hT := NT.out.rng
        have hQ := NT.out.len
        clear hr hp k3 hrs
        go_wp2_with fail
        ((with_reducible refine (K3.out _).mono ?_); rintro e w4 ⟨rfl, hb⟩)
        have X4 := Row5.alloc (Row5.new w4 (.bool (decide (p.1 < 0))) (.int .u64 (lb 0 (p.1).natAbs)) (.int .u64 (lb 1 (p.1).natAbs)) (.int .u64 (lb 2 (p.1).natAbs)) (.int .u64 (lb 3 (p.1).natAbs))) (.cells #[.bool (decide (p.2 < 0)), .int .u64 (lb 0 (p.2).natAbs), .int .u64 (lb 1 (p.2).natAbs), .int .u64 (lb 2 (p.2).natAbs), .int .u64 (lb 3 (p.2).natAbs)] 33)
        have Y4 := Row5.new (w4.alloc (.cells #[.bool (decide (p.1 < 0)), .int .u64 (lb 0 (p.1).natAbs), .int .u64 (lb 1 (p.1).natAbs), .int .u64 (lb 2 (p.1).natAbs), .int .u64 (lb 3 (p.1).natAbs)] 33)) (.bool (decide (p.2 < 0))) (.int .u64 (lb 0 (p.2).natAbs)) (.int .u64 (lb 1 (p.2).natAbs)) (.int .u64 (lb 2 (p.2).natAbs)) (.int .u64 (lb 3 (p.2).natAbs))
        rw [size_alloc9] at Y4
        have B4 := Lib.hid (bal (bal (btr (Below.refl wr.heap.size wr) hb) (.cells #[.bool (decide (p.1 < 0)), .int .u64 (lb 0 (p.1).natAbs), .int .u64 (lb 1 (p.1).natAbs), .int .u64 (lb 2 (p.1).natAbs), .int .u64 (lb 3 (p.1).natAbs)] 33)) (.cells #[.bool (decide (p.2 < 0)), .int .u64 (lb 0 (p.2).natAbs), .int .u64 (lb 1 (p.2).natAbs), .int .u64 (lb 2 (p.2).natAbs), .int .u64 (lb 3 (p.2).natAbs)] 33))
        have HW4 : Hid (wr.heap.size ≤ w4.heap.size) := Lib.hid hb.size
        clear hb c0 c1 c2 c3 c4 c5 c6 c7 c8 c9 c10 c11
        obtain ⟨c0, c1, c2, c3, c4⟩ := X4.parts
        by_cases hlo : -topM < p.1
        · have HSY : Hid (∀ W, Calls Tryd.prog 27 #[.agg #[.bool (decide (p.1 < 0)), .int .u64 (lb 0 (p.1).natAbs), .int .u64 (lb 1 (p.1).natAbs), .int .u64 (lb 2 (p.1).natAbs), .int .u64 (lb 3 (p.1).natAbs)], .bool false] W fun e w' => e = .returned (.tuple #[.agg #[.bool (decide (p.1 - 1 < 0)), .int .u64 (lb 0 (p.1 - 1).natAbs), .int .u64 (lb 1 (p.1 - 1).natAbs), .int .u64 (lb 2 (p.1 - 1).natAbs), .int .u64 (lb 3 (p.1 - 1).natAbs)], .bool true]) ∧ Below W.heap.size W w') := Lib.hid (fun W => by have := KL.out W; unfold Znum at this; rw [if_pos (inR_abs.1 (by unfold inR; omega))] at this; exact this)
          go_wp2_with fail
          ((with_reducible refine (HSY.out _).mono ?_); rintro e w5 ⟨rfl, hb⟩)
          have Y5 := Row5.alloc (Y4.keep hb) (.cells #[.bool (decide (p.1 - 1 < 0)), .int .u64 (lb 0 (p.1 - 1).natAbs), .int .u64 (lb 1 (p.1 - 1).natAbs), .int .u64 (lb 2 (p.1 - 1).natAbs), .int .u64 (lb 3 (p.1 - 1).natAbs)] 33)
          have Z5 := Row5.new w5 (.bool (decide (p.1 - 1 < 0))) (.int .u64 (lb 0 (p.1 - 1).natAbs)) (.int .u64 (lb 1 (p.1 - 1).natAbs)) (.int .u64 (lb 2 (p.1 - 1).natAbs)) (.int .u64 (lb 3 (p.1 - 1).natAbs))
          have B5 := Lib.hid (bal (btr B4.out hb) (.cells #[.bool (decide (p.1 - 1 < 0)), .int .u64 (lb 0 (p.1 - 1).natAbs), .int .u64 (lb 1 (p.1 - 1).natAbs), .int .u64 (lb 2 (p.1 - 1).natAbs), .int .u64 (lb 3 (p.1 - 1).natAbs)] 33))
          have A5 := Lib.hid (Row5.keep B5.out NT.out.blk)
          have KC : Hid (∀ W, Calls Tryd.prog 26 #[.agg #[.bool (decide (t < 0)), .int .u64 (lb 0 (t).natAbs), .int .u64 (lb 1 (t).natAbs), .int .u64 (lb 2 (t).natAbs), .int .u64 (lb 3 (t).natAbs)], .agg #[.bool (decide (p.1 - 1 < 0)), .int .u64 (lb 0 (p.1 - 1).natAbs), .int .u64 (lb 1 (p.1 - 1).natAbs), .int .u64 (lb 2 (p.1 - 1).natAbs), .int .u64 (lb 3 (p.1 - 1).natAbs)]] W fun e w' => e = .returned (.int .i64 (cmpv t (p.1 - 1))) ∧ Below W.heap.size W w') := Lib.hid (fun W => rcmpint_z _ _ (inR_abs.1 hT) (inR_abs.1 (by unfold inR; omega)) W)
          clear hb c0 c1 c2 c3 c4 X4 Y4
          obtain ⟨a0, a1, a2, a3, a4⟩ := A5.out.parts
          obtain ⟨z0, z1, z2, z3, z4⟩ := Z5.parts
          go_wp2_with fail
          ((with_reducible refine (KC.out _).mono ?_); rintro e w6 ⟨rfl, hb⟩)
          have Y6 := Lib.hid (Y5.keep hb)
          have Z6 := Lib.hid (Z5.keep hb)
          have B6 := Lib.hid (btr B5.out hb)
          have A6 := Lib.hid (Row5.keep B6.out NT.out.blk)
          clear hb a0 a1 a2 a3 a4 z0 z1 z2 z3 z4 Y5 Z5
          by_cases htp : t ≤ p.1 - 1
          · have hc : cmpv t (p.1 - 1) ≤ 0 := by unfold cmpv; split <;> (try split) <;> omega
            have KO := Lib.hid (fun W => rof_any t (p.1 - 1) hT (by unfold inR; omega) W)
            have RS6 : Hid (w3.heap.size ≤ w6.heap.size) := Lib.hid (Nat.le_trans SZ.out B6.out.size)
            have HOQ : Hid (w6.ownsRow w3.heap.size 35 12 u3 Q.length (csS (Q.map fun p => rsp (ofSp p)))) := Lib.hid (by have := NT.out.row.keep B6.out; unfold Bs at this; rw [List.length_map] at this; exact this)
            have HOB := Lib.hid (own_base9 NT.out.row)
            obtain ⟨sl', sh', gl', xl', gh', xh', hrs'⟩ : ∃ hl hh gl xl gh xh, rsp (ofSp (t, p.1 - 1)) = ⟨hl, hh, gl, xl, gh, xh⟩ := ⟨_, _, _, _, _, _, rfl⟩
            have ko := KO.out
            rw [hrs'] at ko
            simp only [RS.val] at ko
            have KO2 : Hid (∀ W, Calls Tryd.prog 28 #[.agg #[.bool (decide (t < 0)), .int .u64 (lb 0 (t).natAbs), .int .u64 (lb 1 (t).natAbs), .int .u64 (lb 2 (t).natAbs), .int .u64 (lb 3 (t).natAbs)], .agg #[.bool (decide (p.1 - 1 < 0)), .int .u64 (lb 0 (p.1 - 1).natAbs), .int .u64 (lb 1 (p.1 - 1).natAbs), .int .u64 (lb 2 (p.1 - 1).natAbs), .int .u64 (lb 3 (p.1 - 1).natAbs)]] W fun e w' => e = .returned (V12 sl' sh' gl' (lb 0 xl') (lb 1 xl') (lb 2 xl') (lb 3 xl') gh' (lb 0 xh') (lb 1 xh') (lb 2 xh') (lb 3 xh')) ∧ Below W.heap.size W w') := Lib.hid ko
            have RC : Hid ((rsp (ofSp (t, p.1 - 1))).cells = [.bool sl', .bool sh', .bool gl', .int .u64 (lb 0 xl'), .int .u64 (lb 1 xl'), .int .u64 (lb 2 xl'), .int .u64 (lb 3 xl'), .bool gh', .int .u64 (lb 0 xh'), .int .u64 (lb 1 xh'), .int .u64 (lb 2 xh'), .int .u64 (lb 3 xh')]) := Lib.hid (by rw [hrs']; rfl)
            clear ko hrs'
            obtain ⟨a0, a1, a2, a3, a4⟩ := A6.out.parts
            obtain ⟨z0, z1, z2, z3, z4⟩ := Z6.out.parts
            go_wp2_with fail
            ((with_reducible refine (KO2.out _).mono ?_); rintro e w7 ⟨rfl, hb⟩)
            have O7 := Lib.hid (own_keep9 HOQ.out hb)
            have B7 := Lib.hid (btr B6.out hb)
            have Y7 := Lib.hid (Y6.out.keep hb)
            have hs7 : w3.heap.size ≤ w7.heap.size := Nat.le_trans RS6.out hb.size
            have hs4 : wr.heap.size ≤ w4.heap.size := HW4.out
            have hQ30 : Q.length ≤ 30 := by omega
            clear hb a0 a1 a2 a3 a4 z0 z1 z2 z3 z4
            go_wp2_with (at_builtin; refine wpList_append_lies _ rfl (.tmp 47) (.tmp 51) 22 rfl w3.heap.size 35 i0 (V12 false false false 0 0 0 0 false 0 0 0 0) 12 88 und_spans hi0 hz0 hz1 hz2 rfl (by decide) u3 Q.length _ rfl (own_keep9 O7.out (by repeat (first | (with_reducible exact Below.refl _ _) | (with_reducible refine bal ?_ _) | (with_reducible refine Below.drew ?_) | (with_reducible refine bdn ?_ _)))) ⟨w7.heap.size, 0, none⟩ 1 1 _ rfl rfl (news9 _ _ _ _ (by simp)) (by rw [← RC.out]; exact RS.cells_one _) (by decide) (by unfold maxLen; omega) (by omega) (by simp <;> omega) _ rfl ?_; intro g2 cap2 wz hown2 hgr2 hat2 hlt2; have HO2 := Lib.hid hown2; have RA := Lib.hid (((Row5.keep B7.out NT.out.blk).alloc (.cells #[.bool sl', .bool sh', .bool gl', .int .u64 (lb 0 xl'), .int .u64 (lb 1 xl'), .int .u64 (lb 2 xl'), .int .u64 (lb 3 xl'), .bool gh', .int .u64 (lb 0 xh'), .int .u64 (lb 1 xh'), .int .u64 (lb 2 xh'), .int .u64 (lb 3 xh')] 35)).grown9 hgr2 (fun h => NT.out.ne h.symm)); have LQ := Lib.hid ((LP.out.keep (bal B7.out _)).grown9 hgr2 (fun h => by have := (HOB.out _ h.symm).1; omega)); have YR := Lib.hid ((Y7.out.alloc _).grown9 hgr2 (fun h => by have := (HOB.out _ h.symm).2; omega)); have NB := Lib.hid (Below.grown (bal (btr BX.out B7.out) _) hgr2 (by simp <;> omega) (fun q hq => by have := (HOB.out q hq).1; omega)); have SR : Hid (w3.heap.size ≤ wz.heap.size) := Lib.hid (Nat.le_trans hs7 (Nat.le_trans (by simp) hgr2.size)); obtain ⟨c0, c1, c2, c3, c4⟩ := YR.out.parts; clear hown2 hgr2 hat2 hlt2)
            have NR : Hid (Bs wz w3.heap.size (.slice (some ⟨g2, 0, none⟩) (Q.length + 1) cap2) ((Q ++ [(t, p.1 - 1)]).map fun p => rsp (ofSp p))) := Lib.hid (by rw [List.map_append]; exact Bs.snoc (r := rsp (ofSp (t, p.1 - 1))) (l := Q.map fun p => rsp (ofSp p)) (by rw [List.length_map]; exact HO2.out) RC.out)
            have NE8 : Hid ((Value.slice (some ⟨g2, 0, none⟩) (Q.length + 1) cap2).ownBlock ≠ some (w1.heap.size + 1)) := Lib.hid (fun h => by have := (own_base9 HO2.out g2 rfl).1; have h1 := Option.some.inj h; simp at h1; omega)
            have LN8 : Hid ((Q ++ [(t, p.1 - 1)]).length ≤ j + 1) := Lib.hid (by simp; omega)
            have QE : Hid (Q ++ [(t, p.1 - 1)] = Q ++ (if t ≤ p.1 - 1 then [(t, p.1 - 1)] else [])) := Lib.hid (by rw [if_pos htp])
            by_cases hpt : p.2 < topM
            · have HT1 : Hid (∀ W, Calls Tryd.prog 27 #[.agg #[.bool (decide (p.2 < 0)), .int .u64 (lb 0 (p.2).natAbs), .int .u64 (lb 1 (p.2).natAbs), .int .u64 (lb 2 (p.2).natAbs), .int .u64 (lb 3 (p.2).natAbs)], .bool true] W fun e w' => e = .returned (.tuple #[.agg #[.bool (decide (p.2 + 1 < 0)), .int .u64 (lb 0 (p.2 + 1).natAbs), .int .u64 (lb 1 (p.2 + 1).natAbs), .int .u64 (lb 2 (p.2 + 1).natAbs), .int .u64 (lb 3 (p.2 + 1).natAbs)], .bool true]) ∧ Below W.heap.size W w') := Lib.hid (fun W => by have := KT.out W; unfold Znum at this; rw [if_pos (inR_abs.1 (by unfold inR; omega))] at this; exact this)
              go_wp2_with fail
              ((with_reducible refine (HT1.out _).mono ?_); rintro e w8 ⟨rfl, hb⟩)
              have R8 := Lib.hid (NR.out.keep hb)
              have A8 := Lib.hid (Row5.keep hb RA.out)
              have B8 := Lib.hid (btr NB.out hb)
              have L8 := Lib.hid (LQ.out.keep hb)
              have S8 := Lib.hid (Nat.le_trans SR.out hb.size)
              clear hb c0 c1 c2 c3 c4
              obtain ⟨a0, a1, a2, a3, a4⟩ := A8.out.parts
              obtain ⟨b0, b1, b2, b3, b4⟩ := A8.out.free
              have NALL := Lib.hid (nt_all (Q' := (Q ++ [(t, p.1 - 1)])) (u := (p.2 + 1)) (mb := true) NT.out.all HP.out QE.out (decide_eq_true hpt).symm (fun _ => rfl))
              go_wp2
              go_roundw
              case rel => exact ⟨j + 1, (Q ++ [(t, p.1 - 1)]), (p.2 + 1), true, by omega, by go_num, rfl, Lib.hid (by simp only [World.size_setCell]; exact S8.out), bsc5 B8.out hH4 _ _ _ _ _, (((((L8.out.set9 (Ne.symm hbH)).set9 (Ne.symm hbH)).set9 (Ne.symm hbH)).set9 (Ne.symm hbH)).set9 (Ne.symm hbH)), ⟨own_set9 (own_set9 (own_set9 (own_set9 (own_set9 R8.out NE8.out _) NE8.out _) NE8.out _) NE8.out _) NE8.out _, Row5.set5 A8.out _ _ _ _ _, NE8.out, by omega, NALL.out, LN8.out⟩⟩
              case measure => simp [intOf]; omega
            · have HT1 : Hid (∀ W, Calls Tryd.prog 27 #[.agg #[.bool (decide (p.2 < 0)), .int .u64 (lb 0 (p.2).natAbs), .int .u64 (lb 1 (p.2).natAbs), .int .u64 (lb 2 (p.2).natAbs), .int .u64 (lb 3 (p.2).natAbs)], .bool true] W fun e w' => e = .returned (.tuple #[.agg #[.bool false, .int .u64 0, .int .u64 0, .int .u64 0, .int .u64 0], .bool false]) ∧ Below W.heap.size W w') := Lib.hid (fun W => by have := KT.out W; unfold Znum at this; rw [if_neg (by rw [← inR_abs]; unfold inR; omega)] at this; exact this)
              go_wp2_with fail
              ((with_reducible refine (HT1.out _).mono ?_); rintro e w8 ⟨rfl, hb⟩)
              have R8 := Lib.hid (NR.out.keep hb)
              have A8 := Lib.hid (Row5.keep hb RA.out)
              have B8 := Lib.hid (btr NB.out hb)
              have L8 := Lib.hid (LQ.out.keep hb)
              have S8 := Lib.hid (Nat.le_trans SR.out hb.size)
              clear hb c0 c1 c2 c3 c4
              obtain ⟨a0, a1, a2, a3, a4⟩ := A8.out.parts
              obtain ⟨b0, b1, b2, b3, b4⟩ := A8.out.free
              have NALL := Lib.hid (nt_all (Q' := (Q ++ [(t, p.1 - 1)])) (u := 0) (mb := false) NT.out.all HP.out QE.out (decide_eq_false (show ¬ p.2 < topM by omega)).symm (fun h => by cases h))
              go_wp2
              go_roundw
              case rel => exact ⟨j + 1, (Q ++ [(t, p.1 - 1)]), 0, false, by omega, by go_num, rfl, Lib.hid (by simp only [World.size_setCell]; exact S8.out), bsc5 B8.out hH4 _ _ _ _ _, (((((L8.out.set9 (Ne.symm hbH)).set9 (Ne.symm hbH)).set9 (Ne.symm hbH)).set9 (Ne.symm hbH)).set9 (Ne.symm hbH)), ⟨own_set9 (own_set9 (own_set9 (own_set9 (own_set9 R8.out NE8.out _) NE8.out _) NE8.out _) NE8.out _) NE8.out _, row_zero (Row5.set5 A8.out _ _ _ _ _), NE8.out, by omega, NALL.out, LN8.out⟩⟩
              case measure => simp [intOf]; omega
          · have hc : ¬ cmpv t (p.1 - 1) ≤ 0 := by unfold cmpv; split <;> (try split) <;> omega
            have RA := Lib.hid A6.out; have LQ := Lib.hid (LP.out.keep B6.out); have NB := Lib.hid (btr BX.out B6.out); have NR := Lib.hid (NT.out.row.keep B6.out); have YR := Lib.hid Y6.out; have SR := Lib.hid (Nat.le_trans SZ.out B6.out.size)
            have QE : Hid (Q = Q ++ (if t ≤ p.1 - 1 then [(t, p.1 - 1)] else [])) := Lib.hid (by rw [if_neg htp, List.append_nil])
            have NE8 := Lib.hid NT.out.ne; have LN8 : Hid (Q.length ≤ j + 1) := Lib.hid (by omega)
            obtain ⟨c0, c1, c2, c3, c4⟩ := YR.out.parts
            by_cases hpt : p.2 < topM
            · have HT1 : Hid (∀ W, Calls Tryd.prog 27 #[.agg #[.bool (decide (p.2 < 0)), .int .u64 (lb 0 (p.2).natAbs), .int .u64 (lb 1 (p.2).natAbs), .int .u64 (lb 2 (p.2).natAbs), .int .u64 (lb 3 (p.2).natAbs)], .bool true] W fun e w' => e = .returned (.tuple #[.agg #[.bool (decide (p.2 + 1 < 0)), .int .u64 (lb 0 (p.2 + 1).natAbs), .int .u64 (lb 1 (p.2 + 1).natAbs), .int .u64 (lb 2 (p.2 + 1).natAbs), .int .u64 (lb 3 (p.2 + 1).natAbs)], .bool true]) ∧ Below W.heap.size W w') := Lib.hid (fun W => by have := KT.out W; unfold Znum at this; rw [if_pos (inR_abs.1 (by unfold inR; omega))] at this; exact this)
              go_wp2_with fail
              ((with_reducible refine (HT1.out _).mono ?_); rintro e w8 ⟨rfl, hb⟩)
              have R8 := Lib.hid (NR.out.keep hb)
              have A8 := Lib.hid (Row5.keep hb RA.out)
              have B8 := Lib.hid (btr NB.out hb)
              have L8 := Lib.hid (LQ.out.keep hb)
              have S8 := Lib.hid (Nat.le_trans SR.out hb.size)
              clear hb c0 c1 c2 c3 c4
              obtain ⟨a0, a1, a2, a3, a4⟩ := A8.out.parts
              obtain ⟨b0, b1, b2, b3, b4⟩ := A8.out.free
              have NALL := Lib.hid (nt_all (Q' := Q) (u := (p.2 + 1)) (mb := true) NT.out.all HP.out QE.out (decide_eq_true hpt).symm (fun _ => rfl))
              go_wp2
              go_roundw
              case rel => exact ⟨j + 1, Q, (p.2 + 1), true, by omega, by go_num, rfl, Lib.hid (by simp only [World.size_setCell]; exact S8.out), bsc5 B8.out hH4 _ _ _ _ _, (((((L8.out.set9 (Ne.symm hbH)).set9 (Ne.symm hbH)).set9 (Ne.symm hbH)).set9 (Ne.symm hbH)).set9 (Ne.symm hbH)), ⟨own_set9 (own_set9 (own_set9 (own_set9 (own_set9 R8.out NE8.out _) NE8.out _) NE8.out _) NE8.out _) NE8.out _, Row5.set5 A8.out _ _ _ _ _, NE8.out, by omega, NALL.out, LN8.out⟩⟩
              case measure => simp [intOf]; omega
            · have HT1 : Hid (∀ W, Calls Tryd.prog 27 #[.agg #[.bool (decide (p.2 < 0)), .int .u64 (lb 0 (p.2).natAbs), .int .u64 (lb 1 (p.2).natAbs), .int .u64 (lb 2 (p.2).natAbs), .int .u64 (lb 3 (p.2).natAbs)], .bool true] W fun e w' => e = .returned (.tuple #[.agg #[.bool false, .int .u64 0, .int .u64 0, .int .u64 0, .int .u64 0], .bool false]) ∧ Below W.heap.size W w') := Lib.hid (fun W => by have := KT.out W; unfold Znum at this; rw [if_neg (by rw [← inR_abs]; unfold inR; omega)] at this; exact this)
              go_wp2_with fail
              ((with_reducible refine (HT1.out _).mono ?_); rintro e w8 ⟨rfl, hb⟩)
              have R8 := Lib.hid (NR.out.keep hb)
              have A8 := Lib.hid (Row5.keep hb RA.out)
              have B8 := Lib.hid (btr NB.out hb)
              have L8 := Lib.hid (LQ.out.keep hb)
              have S8 := Lib.hid (Nat.le_trans SR.out hb.size)
              clear hb c0 c1 c2 c3 c4
              obtain ⟨a0, a1, a2, a3, a4⟩ := A8.out.parts
              obtain ⟨b0, b1, b2, b3, b4⟩ := A8.out.free
              have NALL := Lib.hid (nt_all (Q' := Q) (u := 0) (mb := false) NT.out.all HP.out QE.out (decide_eq_false (show ¬ p.2 < topM by omega)).symm (fun h => by cases h))
              go_wp2
              go_roundw
              case rel => exact ⟨j + 1, Q, 0, false, by omega, by go_num, rfl, Lib.hid (by simp only [World.size_setCell]; exact S8.out), bsc5 B8.out hH4 _ _ _ _ _, (((((L8.out.set9 (Ne.symm hbH)).set9 (Ne.symm hbH)).set9 (Ne.symm hbH)).set9 (Ne.symm hbH)).set9 (Ne.symm hbH)), ⟨own_set9 (own_set9 (own_set9 (own_set9 (own_set9 R8.out NE8.out _) NE8.out _) NE8.out _) NE8.out _) NE8.out _, row_zero (Row5.set5 A8.out _ _ _ _ _), NE8.out, by omega, NALL.out, LN8.out⟩⟩
              case measure => simp [intOf]; omega
        · have HSN : Hid (∀ W, Calls Tryd.prog 27 #[.agg #[.bool (decide (p.1 < 0)), .int .u64 (lb 0 (p.1).natAbs), .int .u64 (lb 1 (p.1).natAbs), .int .u64 (lb 2 (p.1).natAbs), .int .u64 (lb 3 (p.1).natAbs)], .bool false] W fun e w' => e = .returned (.tuple #[.agg #[.bool false, .int .u64 0, .int .u64 0, .int .u64 0, .int .u64 0], .bool false]) ∧ Below W.heap.size W w') := Lib.hid (fun W => by have := KL.out W; unfold Znum at this; rw [if_neg (by rw [← inR_abs]; unfold inR; omega)] at this; exact this)
          go_wp2_with fail
          ((with_reducible refine (HSN.out _).mono ?_); rintro e w5 ⟨rfl, hb⟩)
          have Y6 := Lib.hid (Row5.alloc (Y4.keep hb) (.cells #[.bool false, .int .u64 0, .int .u64 0, .int .u64 0, .int .u64 0] 33))
          have B6 := Lib.hid (bal (btr B4.out hb) (.cells #[.bool false, .int .u64 0, .int .u64 0, .int .u64 0, .int .u64 0] 33))
          have htp : ¬ t ≤ p.1 - 1 := by omega
          clear hb c0 c1 c2 c3 c4 X4 Y4
          have RA := Lib.hid (Row5.keep B6.out NT.out.blk); have LQ := Lib.hid (LP.out.keep B6.out); have NB := Lib.hid (btr BX.out B6.out); have NR := Lib.hid (NT.out.row.keep B6.out); have YR := Lib.hid Y6.out; have SR := Lib.hid (Nat.le_trans SZ.out B6.out.size)
          have QE : Hid (Q = Q ++ (if t ≤ p.1 - 1 then [(t, p.1 - 1)] else [])) := Lib.hid (by rw [if_neg htp, List.append_nil])
          have NE8 := Lib.hid NT.out.ne; have LN8 : Hid (Q.length ≤ j + 1) := Lib.hid (by omega)
          obtain ⟨c0, c1, c2, c3, c4⟩ := YR.out.parts
          by_cases hpt : p.2 < topM
          · have HT1 : Hid (∀ W, Calls Tryd.prog 27 #[.agg #[.bool (decide (p.2 < 0)), .int .u64 (lb 0 (p.2).natAbs), .int .u64 (lb 1 (p.2).natAbs), .int .u64 (lb 2 (p.2).natAbs), .int .u64 (lb 3 (p.2).natAbs)], .bool true] W fun e w' => e = .returned (.tuple #[.agg #[.bool (decide (p.2 + 1 < 0)), .int .u64 (lb 0 (p.2 + 1).natAbs), .int .u64 (lb 1 (p.2 + 1).natAbs), .int .u64 (lb 2 (p.2 + 1).natAbs), .int .u64 (lb 3 (p.2 + 1).natAbs)], .bool true]) ∧ Below W.heap.size W w') := Lib.hid (fun W => by have := KT.out W; unfold Znum at this; rw [if_pos (inR_abs.1 (by unfold inR; omega))] at this; exact this)
            go_wp2_with fail
            ((with_reducible refine (HT1.out _).mono ?_); rintro e w8 ⟨rfl, hb⟩)
            have R8 := Lib.hid (NR.out.keep hb)
            have A8 := Lib.hid (Row5.keep hb RA.out)
            have B8 := Lib.hid (btr NB.out hb)
            have L8 := Lib.hid (LQ.out.keep hb)
            have S8 := Lib.hid (Nat.le_trans SR.out hb.size)
            clear hb c0 c1 c2 c3 c4
            obtain ⟨a0, a1, a2, a3, a4⟩ := A8.out.parts
            obtain ⟨b0, b1, b2, b3, b4⟩ := A8.out.free
            have NALL := Lib.hid (nt_all (Q' := Q) (u := (p.2 + 1)) (mb := true) NT.out.all HP.out QE.out (decide_eq_true hpt).symm (fun _ => rfl))
            go_wp2
            go_roundw
            case rel => exact ⟨j + 1, Q, (p.2 + 1), true, by omega, by go_num, rfl, Lib.hid (by simp only [World.size_setCell]; exact S8.out), bsc5 B8.out hH4 _ _ _ _ _, (((((L8.out.set9 (Ne.symm hbH)).set9 (Ne.symm hbH)).set9 (Ne.symm hbH)).set9 (Ne.symm hbH)).set9 (Ne.symm hbH)), ⟨own_set9 (own_set9 (own_set9 (own_set9 (own_set9 R8.out NE8.out _) NE8.out _) NE8.out _) NE8.out _) NE8.out _, Row5.set5 A8.out _ _ _ _ _, NE8.out, by omega, NALL.out, LN8.out⟩⟩
            case measure => simp [intOf]; omega
          · have HT1 : Hid (∀ W, Calls Tryd.prog 27 #[.agg #[.bool (decide (p.2 < 0)), .int .u64 (lb 0 (p.2).natAbs), .int .u64 (lb 1 (p.2).natAbs), .int .u64 (lb 2 (p.2).natAbs), .int .u64 (lb 3 (p.2).natAbs)], .bool true] W fun e w' => e = .returned (.tuple #[.agg #[.bool false, .int .u64 0, .int .u64 0, .int .u64 0, .int .u64 0], .bool false]) ∧ Below W.heap.size W w') := Lib.hid (fun W => by have := KT.out W; unfold Znum at this; rw [if_neg (by rw [← inR_abs]; unfold inR; omega)] at this; exact this)
            go_wp2_with fail
            ((with_reducible refine (HT1.out _).mono ?_); rintro e w8 ⟨rfl, hb⟩)
            have R8 := Lib.hid (NR.out.keep hb)
            have A8 := Lib.hid (Row5.keep hb RA.out)
            have B8 := Lib.hid (btr NB.out hb)
            have L8 := Lib.hid (LQ.out.keep hb)
            have S8 := Lib.hid (Nat.le_trans SR.out hb.size)
            clear hb c0 c1 c2 c3 c4
            obtain ⟨a0, a1, a2, a3, a4⟩ := A8.out.parts
            obtain ⟨b0, b1, b2, b3, b4⟩ := A8.out.free
            have NALL := Lib.hid (nt_all (Q' := Q) (u := 0) (mb := false) NT.out.all HP.out QE.out (decide_eq_false (show ¬ p.2 < topM by omega)).symm (fun h => by cases h))
            go_wp2
            go_roundw
            case rel => exact ⟨j + 1, Q, 0, false, by omega, by go_num, rfl, Lib.hid (by simp only [World.size_setCell]; exact S8.out), bsc5 B8.out hH4 _ _ _ _ _, (((((L8.out.set9 (Ne.symm hbH)).set9 (Ne.symm hbH)).set9 (Ne.symm hbH)).set9 (Ne.symm hbH)).set9 (Ne.symm hbH)), ⟨own_set9 (own_set9 (own_set9 (own_set9 (own_set9 R8.out NE8.out _) NE8.out _) NE8.out _) NE8.out _) NE8.out _, row_zero (Row5.set5 A8.out _ _ _ _ _), NE8.out, by omega, NALL.out, LN8.out⟩⟩
            case measure => simp [intOf]; omega
    · have hge : ¬ (j : Int) < (P.length : Int) := by omega
      obtain rfl : j = P.length := by omega
      cases mb with
      | false =>
        have HQE : Hid (Q = compl (-topM) P) := Lib.hid (by have := NT.out.all; simpa using this)
        have HLE : Hid (Q.length ≤ A.length + 1) := Lib.hid (by rw [HQE.out]; have h1 := compl_len P (-topM); have h2 := HLL.out; omega)
        go_wp2
        go_ret
        exact ⟨_, rfl, Q, own_mono9 NT.out.row hs3, by rw [HQE.out]; exact compl_isN HNP.out, HLE.out, BX.out⟩
      | true =>
        have HQE : Hid (Q ++ [(t, topM)] = compl (-topM) P) := Lib.hid (by have := NT.out.all; rw [if_pos rfl, List.drop_of_length_le (Nat.le_refl _)] at this; exact this)
        have HLE : Hid ((Q ++ [(t, topM)]).length ≤ A.length + 1) := Lib.hid (by rw [HQE.out]; have h1 := compl_len P (-topM); have h2 := HLL.out; omega)
        have R0 := NT.out.blk
        have hQ30 : Q.length ≤ 30 := by have := NT.out.len; omega
        have hsz : w3.heap.size ≤ wr.heap.size := SZ.out
        have ko := fun W => rof_any t topM NT.out.rng (by unfold inR; omega) W
        obtain ⟨sl', sh', gl', xl', gh', xh', hrs'⟩ : ∃ hl hh gl xl gh xh, rsp (ofSp (t, topM)) = ⟨hl, hh, gl, xl, gh, xh⟩ := ⟨_, _, _, _, _, _, rfl⟩
        rw [hrs', Iz_top] at ko
        simp only [RS.val] at ko
        have KO2 : Hid (∀ W, Calls Tryd.prog 28 #[.agg #[.bool (decide (t < 0)), .int .u64 (lb 0 (t).natAbs), .int .u64 (lb 1 (t).natAbs), .int .u64 (lb 2 (t).natAbs), .int .u64 (lb 3 (t).natAbs)], .agg #[.bool false, .int .u64 18446744073709551615, .int .u64 18446744073709551615, .int .u64 18446744073709551615, .int .u64 18446744073709551615]] W fun e w' => e = .returned (V12 sl' sh' gl' (lb 0 xl') (lb 1 xl') (lb 2 xl') (lb 3 xl') gh' (lb 0 xh') (lb 1 xh') (lb 2 xh') (lb 3 xh')) ∧ Below W.heap.size W w') := Lib.hid ko
        have RC : Hid ((rsp (ofSp (t, topM))).cells = [.bool sl', .bool sh', .bool gl', .int .u64 (lb 0 xl'), .int .u64 (lb 1 xl'), .int .u64 (lb 2 xl'), .int .u64 (lb 3 xl'), .bool gh', .int .u64 (lb 0 xh'), .int .u64 (lb 1 xh'), .int .u64 (lb 2 xh'), .int .u64 (lb 3 xh')]) := Lib.hid (by rw [hrs']; rfl)
        have HOQ : Hid (wr.ownsRow w3.heap.size 35 12 u3 Q.length (csS (Q.map fun p => rsp (ofSp p)))) := Lib.hid (by have := NT.out.row; unfold Bs at this; rw [List.length_map] at this; exact this)
        clear ko hrs'
        go_upto_region 15 with (fail)
        first | (go_region_held3 (fun w' => w'.cell? ⟨w1.heap.size + 1, 0, none⟩ = some (.bool (decide (t < 0))) ∧ w'.cell? ⟨w1.heap.size + 1, 1, none⟩ = some (.int .u64 (lb 0 t.natAbs)) ∧ w'.cell? ⟨w1.heap.size + 1, 2, none⟩ = some (.int .u64 (lb 1 t.natAbs)) ∧ w'.cell? ⟨w1.heap.size + 1, 3, none⟩ = some (.int .u64 (lb 2 t.natAbs)) ∧ w'.cell? ⟨w1.heap.size + 1, 4, none⟩ = some (.int .u64 (lb 3 t.natAbs))) ((refine Row5.parts ?_; (repeat (first | (with_reducible assumption) | (with_reducible refine Row5.alloc ?_ _) | (with_reducible refine Row5.drew ?_) | (with_reducible refine Row5.drewN ?_ _))); done)) (first | (go_at_call 31; (with_reducible refine (KF.out _).mono ?_); rintro e wx ⟨rfl, o3, rfl⟩; have BA : Hid (Below wr.heap.size wr _) := Lib.hid (bal (Below.drew (Below.refl wr.heap.size wr)) o3)) | (go_at_call 28; (with_reducible refine (KO2.out _).mono ?_); rintro e wy ⟨rfl, hb⟩; have Ry : Row5 wy (w1.heap.size + 1) (.bool (decide (t < 0))) (.int .u64 (lb 0 (t).natAbs)) (.int .u64 (lb 1 (t).natAbs)) (.int .u64 (lb 2 (t).natAbs)) (.int .u64 (lb 3 (t).natAbs)) := Row5.keep hb (by repeat (first | (with_reducible assumption) | (with_reducible refine Row5.alloc ?_ _) | (with_reducible refine Row5.drew ?_) | (with_reducible refine Row5.drewN ?_ _))); have BY : Hid (Below wr.heap.size wr wy) := Lib.hid (btr BA.out hb); clear hb) | (refine step_append_lies _ (by rfl) _ _ _ (by rfl) w3.heap.size 35 i0 _ 12 88 und_spans hi0 hz0 hz1 hz2 rfl (by decide) u3 Q.length _ (by rfl) (World.ownsRow.alloc (own_keep9 HOQ.out BY.out) _) ⟨_, 0, none⟩ 1 1 [.bool sl', .bool sh', .bool gl', .int .u64 (lb 0 xl'), .int .u64 (lb 1 xl'), .int .u64 (lb 2 xl'), .int .u64 (lb 3 xl'), .bool gh', .int .u64 (lb 0 xh'), .int .u64 (lb 1 xh'), .int .u64 (lb 2 xh'), .int .u64 (lb 3 xh')] (by first | rfl | (simp [Act.eval]; done)) (by rfl) (by exact news9 _ _ _ _ (by simp)) (by rw [← RC.out]; exact RS.cells_one _) (by decide) (by unfold maxLen; omega) (by omega) (by have := BY.out.size; simp; omega) _ rfl ?_; intro g2 cap2 wz hown2 hgr2 hat2 hlt2; have HO2 := Lib.hid hown2; have Rz : Row5 wz (w1.heap.size + 1) (.bool (decide (t < 0))) (.int .u64 (lb 0 (t).natAbs)) (.int .u64 (lb 1 (t).natAbs)) (.int .u64 (lb 2 (t).natAbs)) (.int .u64 (lb 3 (t).natAbs)) := (Ry.alloc _).grown9 hgr2 (fun h => NT.out.ne h.symm); have BZ := Lib.hid (Below.grown (bal (btr BX.out BY.out) _) hgr2 (by have := BX.out.size; have := BY.out.size; simp; omega) (fun q hq => by have := (own_base9 HOQ.out q hq).1; omega)); clear hown2 hgr2 hat2 hlt2) | fail)) | fail
        all_goals
          have NR : Hid (Bs wz w3.heap.size (.slice (some ⟨g2, 0, none⟩) (Q.length + 1) cap2) ((Q ++ [(t, topM)]).map fun p => rsp (ofSp p))) := Lib.hid (by rw [List.map_append]; exact Bs.snoc (r := rsp (ofSp (t, topM))) (l := Q.map fun p => rsp (ofSp p)) (by rw [List.length_map]; exact HO2.out) RC.out)
          go_wp2
          go_ret
          exact ⟨_, rfl, Q ++ [(t, topM)], own_mono9 NR.out hs3, by rw [HQE.out]; exact compl_isN HNP.out, HLE.out, BZ.out⟩
end Go.Proofs.YtjlgiejggcbgbaaDoor
end
section
namespace Go.Proofs.YtjlgiejggcbgbaaDoor
open Go.RowKit Go.Shelf
open Go.Sort (grow)
attribute [local go_sem ↓] eql_nat neq_nat eql_int5 neq_int5

/-- What has been met so far. -/
def Mt (W : World) (base : Nat) (v : Value) (O : List (Int × Int)) (n : Nat) : Prop := Bs W base v (O.map fun p => rsp (ofSp p)) ∧ O.length ≤ n
theorem meet_more {p q : Int × Int} {Q M : List (Int × Int)} {k : Nat} (h : Q[k]? = some q) : M ++ meetR p (Q.take (k + 1)) = (M ++ meetR p (Q.take k)) ++ if (meet2 p q).1 ≤ (meet2 p q).2 then [meet2 p q] else [] := by rw [meetR_snoc h, List.append_assoc]
set_option maxRecDepth 100000 in
set_option maxHeartbeats 16000000 in
/-- The reference's And. -/
theorem rand_in (hN : NormC) {w : World} {a b : Value} {A B : List Sp} (hA : In9 w a A) (hB : In9 w b B) (a12 : A.length ≤ 12) (b12 : B.length ≤ 12) : Calls Tryd.prog 16 #[a, b] w (Sets w (fun x => memS A x && memS B x) 144) := by
  obtain ⟨i0, hi0, hz0, hz1, hz2⟩ := info9 info_span
  have KM := Lib.hid (rmay_in hA); have KN := Lib.hid (rmay_in hB); have HN := Lib.hid hN
  have HA := Lib.hid hA; have HB := Lib.hid hB
  obtain ⟨la, lca, ba, oa, rfl, _⟩ := hA
  obtain ⟨la2, lcb, bb, ob, rfl, _⟩ := hB
  have NA := Lib.hid (fun W (hW : Below w.heap.size w W) => HN.out la lca A W (HA.out.keep hW) (by omega))
  have NB := Lib.hid (fun W (hW : Below w.heap.size w W) => HN.out la2 lcb B W (HB.out.keep hW) (by omega))
  clear hN
  go_enter Tryd.func16, Tryd.ntmps16
  go_wp2_with fail
  ((with_reducible refine (KM.out _ (Below.refl _ _)).mono ?_); rintro e w1 ⟨rfl, hb⟩)
  have B1 := Lib.hid hb
  clear hb
  go_wp2_with fail
  ((with_reducible refine (KN.out _ B1.out).mono ?_); rintro e w2 ⟨rfl, hb⟩)
  have B2 := Lib.hid (btr B1.out hb)
  clear hb
  go_wp2_with fail
  ((with_reducible refine (NA.out _ B2.out).mono ?_); rintro e w3 ⟨v3, rfl, P, hP, hNP, hlP, hb⟩)
  have B3 := Lib.hid (btr B2.out hb)
  clear hb
  go_wp2_with fail
  ((with_reducible refine (NB.out _ B3.out).mono ?_); rintro e w4 ⟨v4, rfl, Q, hQ, hNQ, hlQ, hb⟩)
  have B4 := Lib.hid (btr B3.out hb)
  have hs4 : w.heap.size ≤ w4.heap.size := B4.out.size
  obtain ⟨lp, cp, bp, hv3, hLP, hnP, hmP, _⟩ := (hP.keep hb).form
  obtain ⟨lq, cq, bq, hv4, hLQ, hnQ, hmQ, _⟩ := hQ.form
  rw [List.length_map] at hv3 hnP hv4 hnQ
  subst hv3 hv4
  have HLP := Lib.hid hLP; have HNP := Lib.hid hNP; have HLQ := Lib.hid hLQ; have HNQ := Lib.hid hNQ
  have hP12 : P.length ≤ 12 := by omega
  have hQ12 : Q.length ≤ 12 := by omega
  clear hb hP hLP hNP hlP hQ hLQ hNQ hlQ
  go_wp2
  go_loopw [5, 8] (fun v i wr => ∃ j : Nat, j ≤ P.length ∧ i = .int .i64 j ∧ Hid (Below w4.heap.size w4 wr) ∧ Hid (Mt wr w4.heap.size v (meetL (P.take j) Q) (j * 12))) (fun _ i _ => P.length - (intOf i).toNat)
  case atStart => exact ⟨0, Nat.zero_le _, rfl, Below.refl _ _, ⟨Bs.nil _ _, Nat.le_refl _⟩⟩
  case round =>
    obtain ⟨j, hj, rfl, BX, MT⟩ := hrel
    obtain ⟨wo, rfl⟩ : ∃ wo : World, wo = wr := ⟨_, rfl⟩
    by_cases hlt : j < P.length
    · obtain ⟨p, hp⟩ : ∃ p, P[j]? = some p := ⟨P[j], List.getElem?_eq_getElem hlt⟩
      obtain rfl : lp = some ⟨bp, 0, none⟩ := HLP.out.la (by rw [List.length_map]; omega)
      obtain ⟨r1, r2, r3⟩ := sep_rng (Int.le_refl _) HNP.out.1 p (List.mem_of_getElem? hp)
      have MN := Lib.hid (meetL_snoc (Q := Q) hp)
      have CP := Lib.hid (fun W (hW : Below w4.heap.size w4 W) => by have := (HLP.out.cells j (rsp (ofSp p)) (by rw [List.getElem?_map, hp]; rfl)).keep hW; rw [Nat.zero_add] at this; exact this)
      have HML : Hid (Q.length = Q.length) := Lib.hid rfl
      have KP0 := fun W => rends_any (ofSp p) W
      rw [loE_of, hiE_of] at KP0
      obtain ⟨psl, psh, pgl, pxl, pgh, pxh, prs⟩ : ∃ hl hh gl xl gh xh, rsp (ofSp p) = ⟨hl, hh, gl, xl, gh, xh⟩ := ⟨_, _, _, _, _, _, rfl⟩
      rw [prs] at KP0
      simp only [RS.val] at KP0
      have KP : Hid (∀ W, Calls Tryd.prog 25 #[V12 psl psh pgl (lb 0 pxl) (lb 1 pxl) (lb 2 pxl) (lb 3 pxl) pgh (lb 0 pxh) (lb 1 pxh) (lb 2 pxh) (lb 3 pxh)] W fun e w' => e = .returned (.tuple #[.agg #[.bool (decide (p.1 < 0)), .int .u64 (lb 0 (p.1).natAbs), .int .u64 (lb 1 (p.1).natAbs), .int .u64 (lb 2 (p.1).natAbs), .int .u64 (lb 3 (p.1).natAbs)], .agg #[.bool (decide (p.2 < 0)), .int .u64 (lb 0 (p.2).natAbs), .int .u64 (lb 1 (p.2).natAbs), .int .u64 (lb 2 (p.2).natAbs), .int .u64 (lb 3 (p.2).natAbs)]]) ∧ Below W.heap.size W w') := Lib.hid KP0
      clear KP0
      rw [prs] at CP
      clear hp prs
      go_wp2
      go_loopw [5, 9] (fun v i wr => ∃ k : Nat, k ≤ Q.length ∧ i = .int .i64 k ∧ Hid (Below w4.heap.size w4 wr) ∧ Hid (Mt wr w4.heap.size v (meetL (P.take j) Q ++ meetR p (Q.take k)) (j * 12 + k))) (fun _ i _ => Q.length - (intOf i).toNat)
      case atStart => exact ⟨0, Nat.zero_le _, rfl, BX.out, (show Hid _ from by show Mt _ _ _ _ _; rw [List.take_zero, show meetR p [] = [] from rfl, List.append_nil]; exact MT.out)⟩
      case round =>
        obtain ⟨k, hk, rfl, BY, MK⟩ := hrel
        by_cases hlk : k < Q.length
        · obtain ⟨q, hq⟩ : ∃ q, Q[k]? = some q := ⟨Q[k], List.getElem?_eq_getElem hlk⟩
          obtain rfl : lq = some ⟨bq, 0, none⟩ := HLQ.out.la (by rw [List.length_map]; omega)
          obtain ⟨s1, s2, s3⟩ := sep_rng (Int.le_refl _) HNQ.out.1 q (List.mem_of_getElem? hq)
          have MM := Lib.hid (meet_more (M := meetL (P.take j) Q) (p := p) hq)
          have CQ := Lib.hid (fun W (hW : Below w4.heap.size w4 W) => by have := (HLQ.out.cells k (rsp (ofSp q)) (by rw [List.getElem?_map, hq]; rfl)).keep hW; rw [Nat.zero_add] at this; exact this)
          have KQ0 := fun W => rends_any (ofSp q) W
          rw [loE_of, hiE_of] at KQ0
          obtain ⟨qsl, qsh, qgl, qxl, qgh, qxh, qrs⟩ : ∃ hl hh gl xl gh xh, rsp (ofSp q) = ⟨hl, hh, gl, xl, gh, xh⟩ := ⟨_, _, _, _, _, _, rfl⟩
          rw [qrs] at KQ0
          simp only [RS.val] at KQ0
          have KQ : Hid (∀ W, Calls Tryd.prog 25 #[V12 qsl qsh qgl (lb 0 qxl) (lb 1 qxl) (lb 2 qxl) (lb 3 qxl) qgh (lb 0 qxh) (lb 1 qxh) (lb 2 qxh) (lb 3 qxh)] W fun e w' => e = .returned (.tuple #[.agg #[.bool (decide (q.1 < 0)), .int .u64 (lb 0 (q.1).natAbs), .int .u64 (lb 1 (q.1).natAbs), .int .u64 (lb 2 (q.1).natAbs), .int .u64 (lb 3 (q.1).natAbs)], .agg #[.bool (decide (q.2 < 0)), .int .u64 (lb 0 (q.2).natAbs), .int .u64 (lb 1 (q.2).natAbs), .int .u64 (lb 2 (q.2).natAbs), .int .u64 (lb 3 (q.2).natAbs)]]) ∧ Below W.heap.size W w') := Lib.hid KQ0
          clear KQ0
          rw [qrs] at CQ
          clear hq qrs
          obtain ⟨c0, c1, c2, c3, c4, c5, c6, c7, c8, c9, c10, c11⟩ := (CP.out wr BY.out).twelve
          go_wp2_with fail
          ((with_reducible refine (KP.out _).mono ?_); rintro e w5 ⟨rfl, hb⟩)
          have L5 := Row5.alloc (Row5.new w5 (.bool (decide (p.1 < 0))) (.int .u64 (lb 0 (p.1).natAbs)) (.int .u64 (lb 1 (p.1).natAbs)) (.int .u64 (lb 2 (p.1).natAbs)) (.int .u64 (lb 3 (p.1).natAbs))) (.cells #[.bool (decide (p.2 < 0)), .int .u64 (lb 0 (p.2).natAbs), .int .u64 (lb 1 (p.2).natAbs), .int .u64 (lb 2 (p.2).natAbs), .int .u64 (lb 3 (p.2).natAbs)] 33)
          have H5 := Row5.new (w5.alloc (.cells #[.bool (decide (p.1 < 0)), .int .u64 (lb 0 (p.1).natAbs), .int .u64 (lb 1 (p.1).natAbs), .int .u64 (lb 2 (p.1).natAbs), .int .u64 (lb 3 (p.1).natAbs)] 33)) (.bool (decide (p.2 < 0))) (.int .u64 (lb 0 (p.2).natAbs)) (.int .u64 (lb 1 (p.2).natAbs)) (.int .u64 (lb 2 (p.2).natAbs)) (.int .u64 (lb 3 (p.2).natAbs))
          rw [size_alloc9] at H5
          have D5 := Lib.hid (bal (bal (btr (Below.refl wr.heap.size wr) hb) (.cells #[.bool (decide (p.1 < 0)), .int .u64 (lb 0 (p.1).natAbs), .int .u64 (lb 1 (p.1).natAbs), .int .u64 (lb 2 (p.1).natAbs), .int .u64 (lb 3 (p.1).natAbs)] 33)) (.cells #[.bool (decide (p.2 < 0)), .int .u64 (lb 0 (p.2).natAbs), .int .u64 (lb 1 (p.2).natAbs), .int .u64 (lb 2 (p.2).natAbs), .int .u64 (lb 3 (p.2).natAbs)] 33))
          have hw5 : wr.heap.size ≤ w5.heap.size := hb.size
          clear hb c0 c1 c2 c3 c4 c5 c6 c7 c8 c9 c10 c11
          obtain ⟨c0, c1, c2, c3, c4, c5, c6, c7, c8, c9, c10, c11⟩ := (CQ.out _ (btr BY.out D5.out)).twelve
          go_wp2_with fail
          ((with_reducible refine (KQ.out _).mono ?_); rintro e w6 ⟨rfl, hb⟩)
          have L6 := ((L5.keep hb).alloc (.cells #[.bool (decide (q.1 < 0)), .int .u64 (lb 0 (q.1).natAbs), .int .u64 (lb 1 (q.1).natAbs), .int .u64 (lb 2 (q.1).natAbs), .int .u64 (lb 3 (q.1).natAbs)] 33)).alloc (.cells #[.bool (decide (q.2 < 0)), .int .u64 (lb 0 (q.2).natAbs), .int .u64 (lb 1 (q.2).natAbs), .int .u64 (lb 2 (q.2).natAbs), .int .u64 (lb 3 (q.2).natAbs)] 33)
          have H6 := ((H5.keep hb).alloc (.cells #[.bool (decide (q.1 < 0)), .int .u64 (lb 0 (q.1).natAbs), .int .u64 (lb 1 (q.1).natAbs), .int .u64 (lb 2 (q.1).natAbs), .int .u64 (lb 3 (q.1).natAbs)] 33)).alloc (.cells #[.bool (decide (q.2 < 0)), .int .u64 (lb 0 (q.2).natAbs), .int .u64 (lb 1 (q.2).natAbs), .int .u64 (lb 2 (q.2).natAbs), .int .u64 (lb 3 (q.2).natAbs)] 33)
          have M6 := Row5.alloc (Row5.new w6 (.bool (decide (q.1 < 0))) (.int .u64 (lb 0 (q.1).natAbs)) (.int .u64 (lb 1 (q.1).natAbs)) (.int .u64 (lb 2 (q.1).natAbs)) (.int .u64 (lb 3 (q.1).natAbs))) (.cells #[.bool (decide (q.2 < 0)), .int .u64 (lb 0 (q.2).natAbs), .int .u64 (lb 1 (q.2).natAbs), .int .u64 (lb 2 (q.2).natAbs), .int .u64 (lb 3 (q.2).natAbs)] 33)
          have N6 := Row5.new (w6.alloc (.cells #[.bool (decide (q.1 < 0)), .int .u64 (lb 0 (q.1).natAbs), .int .u64 (lb 1 (q.1).natAbs), .int .u64 (lb 2 (q.1).natAbs), .int .u64 (lb 3 (q.1).natAbs)] 33)) (.bool (decide (q.2 < 0))) (.int .u64 (lb 0 (q.2).natAbs)) (.int .u64 (lb 1 (q.2).natAbs)) (.int .u64 (lb 2 (q.2).natAbs)) (.int .u64 (lb 3 (q.2).natAbs))
          rw [size_alloc9] at N6
          have D6 := Lib.hid (bal (bal (btr D5.out hb) (.cells #[.bool (decide (q.1 < 0)), .int .u64 (lb 0 (q.1).natAbs), .int .u64 (lb 1 (q.1).natAbs), .int .u64 (lb 2 (q.1).natAbs), .int .u64 (lb 3 (q.1).natAbs)] 33)) (.cells #[.bool (decide (q.2 < 0)), .int .u64 (lb 0 (q.2).natAbs), .int .u64 (lb 1 (q.2).natAbs), .int .u64 (lb 2 (q.2).natAbs), .int .u64 (lb 3 (q.2).natAbs)] 33))
          have hw6 : w5.heap.size + 1 + 1 ≤ w6.heap.size := by have := hb.size; simp at this; omega
          clear hb c0 c1 c2 c3 c4 c5 c6 c7 c8 c9 c10 c11 L5 H5
          have KA : Hid (∀ W, Calls Tryd.prog 26 #[.agg #[.bool (decide (q.1 < 0)), .int .u64 (lb 0 (q.1).natAbs), .int .u64 (lb 1 (q.1).natAbs), .int .u64 (lb 2 (q.1).natAbs), .int .u64 (lb 3 (q.1).natAbs)], .agg #[.bool (decide (p.1 < 0)), .int .u64 (lb 0 (p.1).natAbs), .int .u64 (lb 1 (p.1).natAbs), .int .u64 (lb 2 (p.1).natAbs), .int .u64 (lb 3 (p.1).natAbs)]] W fun e w' => e = .returned (.int .i64 (cmpv q.1 p.1)) ∧ Below W.heap.size W w') := Lib.hid (fun W => rcmpint_z _ _ (inR_abs.1 (by unfold inR; omega)) (inR_abs.1 (by unfold inR; omega)) W)
          have KB : Hid (∀ W, Calls Tryd.prog 26 #[.agg #[.bool (decide (q.2 < 0)), .int .u64 (lb 0 (q.2).natAbs), .int .u64 (lb 1 (q.2).natAbs), .int .u64 (lb 2 (q.2).natAbs), .int .u64 (lb 3 (q.2).natAbs)], .agg #[.bool (decide (p.2 < 0)), .int .u64 (lb 0 (p.2).natAbs), .int .u64 (lb 1 (p.2).natAbs), .int .u64 (lb 2 (p.2).natAbs), .int .u64 (lb 3 (p.2).natAbs)]] W fun e w' => e = .returned (.int .i64 (cmpv q.2 p.2)) ∧ Below W.heap.size W w') := Lib.hid (fun W => rcmpint_z _ _ (inR_abs.1 (by unfold inR; omega)) (inR_abs.1 (by unfold inR; omega)) W)
          obtain ⟨c0, c1, c2, c3, c4⟩ := L6.parts
          obtain ⟨d0, d1, d2, d3, d4⟩ := M6.parts
          go_wp2_with fail
          ((with_reducible refine (KA.out _).mono ?_); rintro e w7 ⟨rfl, hb⟩)
          have L7 := L6.keep hb; have H7 := H6.keep hb; have M7 := M6.keep hb; have N7 := N6.keep hb
          have D7 := Lib.hid (btr D6.out hb)
          have hw7 : w6.heap.size + 1 + 1 ≤ w7.heap.size := by have := hb.size; simp at this; omega
          clear hb c0 c1 c2 c3 c4 d0 d1 d2 d3 d4 L6 H6 M6 N6
          by_cases hqp1 : p.1 < q.1
          · have hc1 : 0 < cmpv q.1 p.1 := by unfold cmpv; rw [if_neg (by omega), if_neg (by omega)]; decide
            obtain ⟨d0, d1, d2, d3, d4⟩ := M7.parts
            obtain ⟨c0, c1, c2, c3, c4⟩ := L7.parts
            obtain ⟨f0, f1, f2, f3, f4⟩ := L7.free
            have hm1 : ¬ w5.heap.size = w6.heap.size := by omega
            have hm2 : ¬ w6.heap.size = w5.heap.size := by omega
            go_upto_region 15 with (fail)
            go_name_world w8 hw8'
            have L8 := Row5.set5 L7 (.bool (decide (q.1 < 0))) (.int .u64 (lb 0 (q.1).natAbs)) (.int .u64 (lb 1 (q.1).natAbs)) (.int .u64 (lb 2 (q.1).natAbs)) (.int .u64 (lb 3 (q.1).natAbs))
            have H8 := ((((H7.set (c := w5.heap.size) (by omega) (i := 0) (.bool (decide (q.1 < 0)))).set (c := w5.heap.size) (by omega) (i := 1) (.int .u64 (lb 0 (q.1).natAbs))).set (c := w5.heap.size) (by omega) (i := 2) (.int .u64 (lb 1 (q.1).natAbs))).set (c := w5.heap.size) (by omega) (i := 3) (.int .u64 (lb 2 (q.1).natAbs))).set (c := w5.heap.size) (by omega) (i := 4) (.int .u64 (lb 3 (q.1).natAbs))
            have N8 := ((((N7.set (c := w5.heap.size) (by omega) (i := 0) (.bool (decide (q.1 < 0)))).set (c := w5.heap.size) (by omega) (i := 1) (.int .u64 (lb 0 (q.1).natAbs))).set (c := w5.heap.size) (by omega) (i := 2) (.int .u64 (lb 1 (q.1).natAbs))).set (c := w5.heap.size) (by omega) (i := 3) (.int .u64 (lb 2 (q.1).natAbs))).set (c := w5.heap.size) (by omega) (i := 4) (.int .u64 (lb 3 (q.1).natAbs))
            have D8 := Lib.hid (bsc5 D7.out (show wr.heap.size ≤ w5.heap.size from hw5) (.bool (decide (q.1 < 0))) (.int .u64 (lb 0 (q.1).natAbs)) (.int .u64 (lb 1 (q.1).natAbs)) (.int .u64 (lb 2 (q.1).natAbs)) (.int .u64 (lb 3 (q.1).natAbs)))
            rw [hw8'] at L8 H8 N8 D8
            have hw8 : w7.heap.size ≤ w8.heap.size := by rw [← hw8']; simp only [World.size_setCell]; exact Nat.le_refl _
            clear hw8' d0 d1 d2 d3 d4 c0 c1 c2 c3 c4 f0 f1 f2 f3 f4 L7 H7 N7 M7
            obtain ⟨c0, c1, c2, c3, c4⟩ := H8.parts
            obtain ⟨d0, d1, d2, d3, d4⟩ := N8.parts
            go_wp2_with fail
            ((with_reducible refine (KB.out _).mono ?_); rintro e w9 ⟨rfl, hb⟩)
            have L9 := L8.keep hb; have H9 := H8.keep hb; have N9 := N8.keep hb
            have D9 := Lib.hid (btr D8.out hb)
            have hw9 : w7.heap.size ≤ w9.heap.size := Nat.le_trans hw8 hb.size
            clear hb c0 c1 c2 c3 c4 d0 d1 d2 d3 d4 L8 H8 N8
            by_cases hqp2 : q.2 < p.2
            · have hc2 : cmpv q.2 p.2 < 0 := by unfold cmpv; rw [if_pos hqp2]; decide
              obtain ⟨d0, d1, d2, d3, d4⟩ := N9.parts
              obtain ⟨c0, c1, c2, c3, c4⟩ := H9.parts
              obtain ⟨f0, f1, f2, f3, f4⟩ := H9.free
              have hn1 : ¬ w5.heap.size + 1 = w6.heap.size + 1 := by omega
              have hn2 : ¬ w6.heap.size + 1 = w5.heap.size + 1 := by omega
              go_upto_region 17 with (fail)
              go_name_world wa hwa
              have La := ((((L9.set (c := w5.heap.size + 1) (by omega) (i := 0) (.bool (decide (q.2 < 0)))).set (c := w5.heap.size + 1) (by omega) (i := 1) (.int .u64 (lb 0 (q.2).natAbs))).set (c := w5.heap.size + 1) (by omega) (i := 2) (.int .u64 (lb 1 (q.2).natAbs))).set (c := w5.heap.size + 1) (by omega) (i := 3) (.int .u64 (lb 2 (q.2).natAbs))).set (c := w5.heap.size + 1) (by omega) (i := 4) (.int .u64 (lb 3 (q.2).natAbs))
              have Ha := Row5.set5 H9 (.bool (decide (q.2 < 0))) (.int .u64 (lb 0 (q.2).natAbs)) (.int .u64 (lb 1 (q.2).natAbs)) (.int .u64 (lb 2 (q.2).natAbs)) (.int .u64 (lb 3 (q.2).natAbs))
              have Da := Lib.hid (bsc5 D9.out (show wr.heap.size ≤ w5.heap.size + 1 by omega) (.bool (decide (q.2 < 0))) (.int .u64 (lb 0 (q.2).natAbs)) (.int .u64 (lb 1 (q.2).natAbs)) (.int .u64 (lb 2 (q.2).natAbs)) (.int .u64 (lb 3 (q.2).natAbs)))
              rw [hwa] at La Ha Da
              have hwb : w7.heap.size ≤ wa.heap.size := by rw [← hwa]; simp only [World.size_setCell]; exact hw9
              clear hwa d0 d1 d2 d3 d4 c0 c1 c2 c3 c4 f0 f1 f2 f3 f4 L9 H9 N9
              have HM : Hid (meet2 p q = (q.1, q.2)) := Lib.hid (by unfold meet2; simp only [Prod.mk.injEq]; refine ⟨?_, ?_⟩ <;> first | exact if_pos (by omega) | exact if_neg (by omega))
              have KC : Hid (∀ W, Calls Tryd.prog 26 #[.agg #[.bool (decide (q.1 < 0)), .int .u64 (lb 0 (q.1).natAbs), .int .u64 (lb 1 (q.1).natAbs), .int .u64 (lb 2 (q.1).natAbs), .int .u64 (lb 3 (q.1).natAbs)], .agg #[.bool (decide (q.2 < 0)), .int .u64 (lb 0 (q.2).natAbs), .int .u64 (lb 1 (q.2).natAbs), .int .u64 (lb 2 (q.2).natAbs), .int .u64 (lb 3 (q.2).natAbs)]] W fun e w' => e = .returned (.int .i64 (cmpv q.1 q.2)) ∧ Below W.heap.size W w') := Lib.hid (fun W => rcmpint_z _ _ (inR_abs.1 (by unfold inR; omega)) (inR_abs.1 (by unfold inR; omega)) W)
              obtain ⟨c0, c1, c2, c3, c4⟩ := La.parts
              obtain ⟨d0, d1, d2, d3, d4⟩ := Ha.parts
              go_wp2_with fail
              ((with_reducible refine (KC.out _).mono ?_); rintro e wb ⟨rfl, hb⟩)
              have Lb := La.keep hb; have Hb := Ha.keep hb
              have Db := Lib.hid (btr Da.out hb)
              clear hb c0 c1 c2 c3 c4 d0 d1 d2 d3 d4 La Ha
              by_cases hle : q.1 ≤ q.2
              · have hc3 : cmpv q.1 q.2 ≤ 0 := by unfold cmpv; split <;> (try split) <;> omega
                have ko := fun W => rof_any q.1 q.2 (by unfold inR; omega) (by unfold inR; omega) W
                obtain ⟨sl', sh', gl', xl', gh', xh', hrs'⟩ : ∃ hl hh gl xl gh xh, rsp (ofSp (q.1, q.2)) = ⟨hl, hh, gl, xl, gh, xh⟩ := ⟨_, _, _, _, _, _, rfl⟩
                rw [hrs'] at ko
                simp only [RS.val] at ko
                have KO2 : Hid (∀ W, Calls Tryd.prog 28 #[.agg #[.bool (decide (q.1 < 0)), .int .u64 (lb 0 (q.1).natAbs), .int .u64 (lb 1 (q.1).natAbs), .int .u64 (lb 2 (q.1).natAbs), .int .u64 (lb 3 (q.1).natAbs)], .agg #[.bool (decide (q.2 < 0)), .int .u64 (lb 0 (q.2).natAbs), .int .u64 (lb 1 (q.2).natAbs), .int .u64 (lb 2 (q.2).natAbs), .int .u64 (lb 3 (q.2).natAbs)]] W fun e w' => e = .returned (V12 sl' sh' gl' (lb 0 xl') (lb 1 xl') (lb 2 xl') (lb 3 xl') gh' (lb 0 xh') (lb 1 xh') (lb 2 xh') (lb 3 xh')) ∧ Below W.heap.size W w') := Lib.hid ko
                have RC : Hid ((rsp (ofSp (q.1, q.2))).cells = [.bool sl', .bool sh', .bool gl', .int .u64 (lb 0 xl'), .int .u64 (lb 1 xl'), .int .u64 (lb 2 xl'), .int .u64 (lb 3 xl'), .bool gh', .int .u64 (lb 0 xh'), .int .u64 (lb 1 xh'), .int .u64 (lb 2 xh'), .int .u64 (lb 3 xh')]) := Lib.hid (by rw [hrs']; rfl)
                clear ko hrs'
                obtain ⟨n, hn⟩ : ∃ n, (meetL (P.take j) Q ++ meetR p (Q.take k)).length = n := ⟨_, rfl⟩
                have hnl : n ≤ 1000 := by have := MK.out.2; omega
                have HOQ : Hid (wr.ownsRow w4.heap.size 35 12 u5 n (csS ((meetL (P.take j) Q ++ meetR p (Q.take k)).map fun p => rsp (ofSp p)))) := Lib.hid (by have := MK.out.1; unfold Bs at this; rw [List.length_map, hn] at this; exact this)
                have HNN := Lib.hid hn
                have hyw : w4.heap.size ≤ wr.heap.size := BY.out.size
                clear hn
                obtain ⟨c0, c1, c2, c3, c4⟩ := Lb.parts
                obtain ⟨d0, d1, d2, d3, d4⟩ := Hb.parts
                go_wp2_with fail
                ((with_reducible refine (KO2.out _).mono ?_); rintro e wc ⟨rfl, hb⟩)
                have Dc := Lib.hid (btr Db.out hb)
                have Oc := Lib.hid (own_keep9 HOQ.out Dc.out)
                have hsc : w4.heap.size ≤ wc.heap.size := Nat.le_trans hyw Dc.out.size
                clear hb c0 c1 c2 c3 c4 d0 d1 d2 d3 d4 Lb Hb
                go_wp2_with (at_builtin; refine wpList_append_lies _ rfl (.tmp 68) (.tmp 72) 22 rfl w4.heap.size 35 i0 (V12 false false false 0 0 0 0 false 0 0 0 0) 12 88 und_spans hi0 hz0 hz1 hz2 rfl (by decide) u5 n _ rfl (own_keep9 Oc.out (by repeat (first | (with_reducible exact Below.refl _ _) | (with_reducible refine bal ?_ _) | (with_reducible refine Below.drew ?_) | (with_reducible refine bdn ?_ _)))) ⟨wc.heap.size, 0, none⟩ 1 1 _ rfl rfl (news9 _ _ _ _ (by simp)) (by rw [← RC.out]; exact RS.cells_one _) (by decide) (by unfold maxLen; omega) (by omega) (by simp <;> omega) _ rfl ?_; intro g2 cap2 wz hown2 hgr2 hat2 hlt2; have HO2 := Lib.hid hown2; have BZ := Lib.hid (Below.grown (bal (btr BY.out Dc.out) _) hgr2 (by simp <;> omega) (fun q hq => (own_base9 HOQ.out q hq).1)); clear hown2 hgr2 hat2 hlt2)
                have NR : Hid (Mt wz w4.heap.size (.slice (some ⟨g2, 0, none⟩) (n + 1) cap2) (meetL (P.take j) Q ++ meetR p (Q.take (k + 1))) (j * 12 + (k + 1))) := Lib.hid (by rw [MM.out, HM.out, if_pos hle]; refine ⟨?_, by have := MK.out.2; rw [List.length_append]; simp only [List.length_singleton]; omega⟩; rw [List.map_append]; exact Bs.snoc (r := rsp (ofSp (q.1, q.2))) (by rw [List.length_map, HNN.out]; exact HO2.out) RC.out)
                go_roundw
                case rel => exact ⟨k + 1, by omega, by go_num, BZ.out, NR.out⟩
                case measure => simp [intOf]; omega
              · exact absurd s2 hle
            · have hc2 : ¬ cmpv q.2 p.2 < 0 := by unfold cmpv; rw [if_neg hqp2]; split <;> decide
              obtain ⟨wa, rfl⟩ : ∃ wa : World, wa = w9 := ⟨_, rfl⟩
              have La := L9; have Ha := H9; have Da := D9
              have hwb : w7.heap.size ≤ wa.heap.size := hw9
              clear L9 H9 N9
              have HM : Hid (meet2 p q = (q.1, p.2)) := Lib.hid (by unfold meet2; simp only [Prod.mk.injEq]; refine ⟨?_, ?_⟩ <;> first | exact if_pos (by omega) | exact if_neg (by omega))
              have KC : Hid (∀ W, Calls Tryd.prog 26 #[.agg #[.bool (decide (q.1 < 0)), .int .u64 (lb 0 (q.1).natAbs), .int .u64 (lb 1 (q.1).natAbs), .int .u64 (lb 2 (q.1).natAbs), .int .u64 (lb 3 (q.1).natAbs)], .agg #[.bool (decide (p.2 < 0)), .int .u64 (lb 0 (p.2).natAbs), .int .u64 (lb 1 (p.2).natAbs), .int .u64 (lb 2 (p.2).natAbs), .int .u64 (lb 3 (p.2).natAbs)]] W fun e w' => e = .returned (.int .i64 (cmpv q.1 p.2)) ∧ Below W.heap.size W w') := Lib.hid (fun W => rcmpint_z _ _ (inR_abs.1 (by unfold inR; omega)) (inR_abs.1 (by unfold inR; omega)) W)
              obtain ⟨c0, c1, c2, c3, c4⟩ := La.parts
              obtain ⟨d0, d1, d2, d3, d4⟩ := Ha.parts
              go_wp2_with fail
              ((with_reducible refine (KC.out _).mono ?_); rintro e wb ⟨rfl, hb⟩)
              have Lb := La.keep hb; have Hb := Ha.keep hb
              have Db := Lib.hid (btr Da.out hb)
              clear hb c0 c1 c2 c3 c4 d0 d1 d2 d3 d4 La Ha
              by_cases hle : q.1 ≤ p.2
              · have hc3 : cmpv q.1 p.2 ≤ 0 := by unfold cmpv; split <;> (try split) <;> omega
                have ko := fun W => rof_any q.1 p.2 (by unfold inR; omega) (by unfold inR; omega) W
                obtain ⟨sl', sh', gl', xl', gh', xh', hrs'⟩ : ∃ hl hh gl xl gh xh, rsp (ofSp (q.1, p.2)) = ⟨hl, hh, gl, xl, gh, xh⟩ := ⟨_, _, _, _, _, _, rfl⟩
                rw [hrs'] at ko
                simp only [RS.val] at ko
                have KO2 : Hid (∀ W, Calls Tryd.prog 28 #[.agg #[.bool (decide (q.1 < 0)), .int .u64 (lb 0 (q.1).natAbs), .int .u64 (lb 1 (q.1).natAbs), .int .u64 (lb 2 (q.1).natAbs), .int .u64 (lb 3 (q.1).natAbs)], .agg #[.bool (decide (p.2 < 0)), .int .u64 (lb 0 (p.2).natAbs), .int .u64 (lb 1 (p.2).natAbs), .int .u64 (lb 2 (p.2).natAbs), .int .u64 (lb 3 (p.2).natAbs)]] W fun e w' => e = .returned (V12 sl' sh' gl' (lb 0 xl') (lb 1 xl') (lb 2 xl') (lb 3 xl') gh' (lb 0 xh') (lb 1 xh') (lb 2 xh') (lb 3 xh')) ∧ Below W.heap.size W w') := Lib.hid ko
                have RC : Hid ((rsp (ofSp (q.1, p.2))).cells = [.bool sl', .bool sh', .bool gl', .int .u64 (lb 0 xl'), .int .u64 (lb 1 xl'), .int .u64 (lb 2 xl'), .int .u64 (lb 3 xl'), .bool gh', .int .u64 (lb 0 xh'), .int .u64 (lb 1 xh'), .int .u64 (lb 2 xh'), .int .u64 (lb 3 xh')]) := Lib.hid (by rw [hrs']; rfl)
                clear ko hrs'
                obtain ⟨n, hn⟩ : ∃ n, (meetL (P.take j) Q ++ meetR p (Q.take k)).length = n := ⟨_, rfl⟩
                have hnl : n ≤ 1000 := by have := MK.out.2; omega
                have HOQ : Hid (wr.ownsRow w4.heap.size 35 12 u5 n (csS ((meetL (P.take j) Q ++ meetR p (Q.take k)).map fun p => rsp (ofSp p)))) := Lib.hid (by have := MK.out.1; unfold Bs at this; rw [List.length_map, hn] at this; exact this)
                have HNN := Lib.hid hn
                have hyw : w4.heap.size ≤ wr.heap.size := BY.out.size
                clear hn
                obtain ⟨c0, c1, c2, c3, c4⟩ := Lb.parts
                obtain ⟨d0, d1, d2, d3, d4⟩ := Hb.parts
                go_wp2_with fail
                ((with_reducible refine (KO2.out _).mono ?_); rintro e wc ⟨rfl, hb⟩)
                have Dc := Lib.hid (btr Db.out hb)
                have Oc := Lib.hid (own_keep9 HOQ.out Dc.out)
                have hsc : w4.heap.size ≤ wc.heap.size := Nat.le_trans hyw Dc.out.size
                clear hb c0 c1 c2 c3 c4 d0 d1 d2 d3 d4 Lb Hb
                go_wp2_with (at_builtin; refine wpList_append_lies _ rfl (.tmp 68) (.tmp 72) 22 rfl w4.heap.size 35 i0 (V12 false false false 0 0 0 0 false 0 0 0 0) 12 88 und_spans hi0 hz0 hz1 hz2 rfl (by decide) u5 n _ rfl (own_keep9 Oc.out (by repeat (first | (with_reducible exact Below.refl _ _) | (with_reducible refine bal ?_ _) | (with_reducible refine Below.drew ?_) | (with_reducible refine bdn ?_ _)))) ⟨wc.heap.size, 0, none⟩ 1 1 _ rfl rfl (news9 _ _ _ _ (by simp)) (by rw [← RC.out]; exact RS.cells_one _) (by decide) (by unfold maxLen; omega) (by omega) (by simp <;> omega) _ rfl ?_; intro g2 cap2 wz hown2 hgr2 hat2 hlt2; have HO2 := Lib.hid hown2; have BZ := Lib.hid (Below.grown (bal (btr BY.out Dc.out) _) hgr2 (by simp <;> omega) (fun q hq => (own_base9 HOQ.out q hq).1)); clear hown2 hgr2 hat2 hlt2)
                have NR : Hid (Mt wz w4.heap.size (.slice (some ⟨g2, 0, none⟩) (n + 1) cap2) (meetL (P.take j) Q ++ meetR p (Q.take (k + 1))) (j * 12 + (k + 1))) := Lib.hid (by rw [MM.out, HM.out, if_pos hle]; refine ⟨?_, by have := MK.out.2; rw [List.length_append]; simp only [List.length_singleton]; omega⟩; rw [List.map_append]; exact Bs.snoc (r := rsp (ofSp (q.1, p.2))) (by rw [List.length_map, HNN.out]; exact HO2.out) RC.out)
                go_roundw
                case rel => exact ⟨k + 1, by omega, by go_num, BZ.out, NR.out⟩
                case measure => simp [intOf]; omega
              · have hc3 : ¬ cmpv q.1 p.2 ≤ 0 := by unfold cmpv; split <;> (try split) <;> omega
                have NR : Hid (Mt wb w4.heap.size u5 (meetL (P.take j) Q ++ meetR p (Q.take (k + 1))) (j * 12 + (k + 1))) := Lib.hid (by rw [MM.out, HM.out, if_neg hle, List.append_nil]; exact ⟨MK.out.1.keep Db.out, Nat.le_succ_of_le MK.out.2⟩)
                have BZ := Lib.hid (btr BY.out Db.out)
                go_wp2
                go_roundw
                case rel => exact ⟨k + 1, by omega, by go_num, BZ.out, NR.out⟩
                case measure => simp [intOf]; omega
          · have hc1 : ¬ 0 < cmpv q.1 p.1 := by unfold cmpv; split <;> (try split) <;> omega
            obtain ⟨w8, rfl⟩ : ∃ w8 : World, w8 = w7 := ⟨_, rfl⟩
            have L8 := L7; have H8 := H7; have N8 := N7; have D8 := D7
            have hw8 : w8.heap.size ≤ w8.heap.size := Nat.le_refl _
            clear L7 H7 N7 M7 D7
            obtain ⟨c0, c1, c2, c3, c4⟩ := H8.parts
            obtain ⟨d0, d1, d2, d3, d4⟩ := N8.parts
            go_wp2_with fail
            ((with_reducible refine (KB.out _).mono ?_); rintro e w9 ⟨rfl, hb⟩)
            have L9 := L8.keep hb; have H9 := H8.keep hb; have N9 := N8.keep hb
            have D9 := Lib.hid (btr D8.out hb)
            have hw9 : w8.heap.size ≤ w9.heap.size := Nat.le_trans hw8 hb.size
            clear hb c0 c1 c2 c3 c4 d0 d1 d2 d3 d4 L8 H8 N8
            by_cases hqp2 : q.2 < p.2
            · have hc2 : cmpv q.2 p.2 < 0 := by unfold cmpv; rw [if_pos hqp2]; decide
              obtain ⟨d0, d1, d2, d3, d4⟩ := N9.parts
              obtain ⟨c0, c1, c2, c3, c4⟩ := H9.parts
              obtain ⟨f0, f1, f2, f3, f4⟩ := H9.free
              have hn1 : ¬ w5.heap.size + 1 = w6.heap.size + 1 := by omega
              have hn2 : ¬ w6.heap.size + 1 = w5.heap.size + 1 := by omega
              go_upto_region 17 with (fail)
              go_name_world wa hwa
              have La := ((((L9.set (c := w5.heap.size + 1) (by omega) (i := 0) (.bool (decide (q.2 < 0)))).set (c := w5.heap.size + 1) (by omega) (i := 1) (.int .u64 (lb 0 (q.2).natAbs))).set (c := w5.heap.size + 1) (by omega) (i := 2) (.int .u64 (lb 1 (q.2).natAbs))).set (c := w5.heap.size + 1) (by omega) (i := 3) (.int .u64 (lb 2 (q.2).natAbs))).set (c := w5.heap.size + 1) (by omega) (i := 4) (.int .u64 (lb 3 (q.2).natAbs))
              have Ha := Row5.set5 H9 (.bool (decide (q.2 < 0))) (.int .u64 (lb 0 (q.2).natAbs)) (.int .u64 (lb 1 (q.2).natAbs)) (.int .u64 (lb 2 (q.2).natAbs)) (.int .u64 (lb 3 (q.2).natAbs))
              have Da := Lib.hid (bsc5 D9.out (show wr.heap.size ≤ w5.heap.size + 1 by omega) (.bool (decide (q.2 < 0))) (.int .u64 (lb 0 (q.2).natAbs)) (.int .u64 (lb 1 (q.2).natAbs)) (.int .u64 (lb 2 (q.2).natAbs)) (.int .u64 (lb 3 (q.2).natAbs)))
              rw [hwa] at La Ha Da
              have hwb : w8.heap.size ≤ wa.heap.size := by rw [← hwa]; simp only [World.size_setCell]; exact hw9
              clear hwa d0 d1 d2 d3 d4 c0 c1 c2 c3 c4 f0 f1 f2 f3 f4 L9 H9 N9
              have HM : Hid (meet2 p q = (p.1, q.2)) := Lib.hid (by unfold meet2; simp only [Prod.mk.injEq]; refine ⟨?_, ?_⟩ <;> first | exact if_pos (by omega) | exact if_neg (by omega))
              have KC : Hid (∀ W, Calls Tryd.prog 26 #[.agg #[.bool (decide (p.1 < 0)), .int .u64 (lb 0 (p.1).natAbs), .int .u64 (lb 1 (p.1).natAbs), .int .u64 (lb 2 (p.1).natAbs), .int .u64 (lb 3 (p.1).natAbs)], .agg #[.bool (decide (q.2 < 0)), .int .u64 (lb 0 (q.2).natAbs), .int .u64 (lb 1 (q.2).natAbs), .int .u64 (lb 2 (q.2).natAbs), .int .u64 (lb 3 (q.2).natAbs)]] W fun e w' => e = .returned (.int .i64 (cmpv p.1 q.2)) ∧ Below W.heap.size W w') := Lib.hid (fun W => rcmpint_z _ _ (inR_abs.1 (by unfold inR; omega)) (inR_abs.1 (by unfold inR; omega)) W)
              obtain ⟨c0, c1, c2, c3, c4⟩ := La.parts
              obtain ⟨d0, d1, d2, d3, d4⟩ := Ha.parts
              go_wp2_with fail
              ((with_reducible refine (KC.out _).mono ?_); rintro e wb ⟨rfl, hb⟩)
              have Lb := La.keep hb; have Hb := Ha.keep hb
              have Db := Lib.hid (btr Da.out hb)
              clear hb c0 c1 c2 c3 c4 d0 d1 d2 d3 d4 La Ha
              by_cases hle : p.1 ≤ q.2
              · have hc3 : cmpv p.1 q.2 ≤ 0 := by unfold cmpv; split <;> (try split) <;> omega
                have ko := fun W => rof_any p.1 q.2 (by unfold inR; omega) (by unfold inR; omega) W
                obtain ⟨sl', sh', gl', xl', gh', xh', hrs'⟩ : ∃ hl hh gl xl gh xh, rsp (ofSp (p.1, q.2)) = ⟨hl, hh, gl, xl, gh, xh⟩ := ⟨_, _, _, _, _, _, rfl⟩
                rw [hrs'] at ko
                simp only [RS.val] at ko
                have KO2 : Hid (∀ W, Calls Tryd.prog 28 #[.agg #[.bool (decide (p.1 < 0)), .int .u64 (lb 0 (p.1).natAbs), .int .u64 (lb 1 (p.1).natAbs), .int .u64 (lb 2 (p.1).natAbs), .int .u64 (lb 3 (p.1).natAbs)], .agg #[.bool (decide (q.2 < 0)), .int .u64 (lb 0 (q.2).natAbs), .int .u64 (lb 1 (q.2).natAbs), .int .u64 (lb 2 (q.2).natAbs), .int .u64 (lb 3 (q.2).natAbs)]] W fun e w' => e = .returned (V12 sl' sh' gl' (lb 0 xl') (lb 1 xl') (lb 2 xl') (lb 3 xl') gh' (lb 0 xh') (lb 1 xh') (lb 2 xh') (lb 3 xh')) ∧ Below W.heap.size W w') := Lib.hid ko
                have RC : Hid ((rsp (ofSp (p.1, q.2))).cells = [.bool sl', .bool sh', .bool gl', .int .u64 (lb 0 xl'), .int .u64 (lb 1 xl'), .int .u64 (lb 2 xl'), .int .u64 (lb 3 xl'), .bool gh', .int .u64 (lb 0 xh'), .int .u64 (lb 1 xh'), .int .u64 (lb 2 xh'), .int .u64 (lb 3 xh')]) := Lib.hid (by rw [hrs']; rfl)
                clear ko hrs'
                obtain ⟨n, hn⟩ : ∃ n, (meetL (P.take j) Q ++ meetR p (Q.take k)).length = n := ⟨_, rfl⟩
                have hnl : n ≤ 1000 := by have := MK.out.2; omega
                have HOQ : Hid (wr.ownsRow w4.heap.size 35 12 u5 n (csS ((meetL (P.take j) Q ++ meetR p (Q.take k)).map fun p => rsp (ofSp p)))) := Lib.hid (by have := MK.out.1; unfold Bs at this; rw [List.length_map, hn] at this; exact this)
                have HNN := Lib.hid hn
                have hyw : w4.heap.size ≤ wr.heap.size := BY.out.size
                clear hn
                obtain ⟨c0, c1, c2, c3, c4⟩ := Lb.parts
                obtain ⟨d0, d1, d2, d3, d4⟩ := Hb.parts
                go_wp2_with fail
                ((with_reducible refine (KO2.out _).mono ?_); rintro e wc ⟨rfl, hb⟩)
                have Dc := Lib.hid (btr Db.out hb)
                have Oc := Lib.hid (own_keep9 HOQ.out Dc.out)
                have hsc : w4.heap.size ≤ wc.heap.size := Nat.le_trans hyw Dc.out.size
                clear hb c0 c1 c2 c3 c4 d0 d1 d2 d3 d4 Lb Hb
                go_wp2_with (at_builtin; refine wpList_append_lies _ rfl (.tmp 68) (.tmp 72) 22 rfl w4.heap.size 35 i0 (V12 false false false 0 0 0 0 false 0 0 0 0) 12 88 und_spans hi0 hz0 hz1 hz2 rfl (by decide) u5 n _ rfl (own_keep9 Oc.out (by repeat (first | (with_reducible exact Below.refl _ _) | (with_reducible refine bal ?_ _) | (with_reducible refine Below.drew ?_) | (with_reducible refine bdn ?_ _)))) ⟨wc.heap.size, 0, none⟩ 1 1 _ rfl rfl (news9 _ _ _ _ (by simp)) (by rw [← RC.out]; exact RS.cells_one _) (by decide) (by unfold maxLen; omega) (by omega) (by simp <;> omega) _ rfl ?_; intro g2 cap2 wz hown2 hgr2 hat2 hlt2; have HO2 := Lib.hid hown2; have BZ := Lib.hid (Below.grown (bal (btr BY.out Dc.out) _) hgr2 (by simp <;> omega) (fun q hq => (own_base9 HOQ.out q hq).1)); clear hown2 hgr2 hat2 hlt2)
                have NR : Hid (Mt wz w4.heap.size (.slice (some ⟨g2, 0, none⟩) (n + 1) cap2) (meetL (P.take j) Q ++ meetR p (Q.take (k + 1))) (j * 12 + (k + 1))) := Lib.hid (by rw [MM.out, HM.out, if_pos hle]; refine ⟨?_, by have := MK.out.2; rw [List.length_append]; simp only [List.length_singleton]; omega⟩; rw [List.map_append]; exact Bs.snoc (r := rsp (ofSp (p.1, q.2))) (by rw [List.length_map, HNN.out]; exact HO2.out) RC.out)
                go_roundw
                case rel => exact ⟨k + 1, by omega, by go_num, BZ.out, NR.out⟩
                case measure => simp [intOf]; omega
              · have hc3 : ¬ cmpv p.1 q.2 ≤ 0 := by unfold cmpv; split <;> (try split) <;> omega
                have NR : Hid (Mt wb w4.heap.size u5 (meetL (P.take j) Q ++ meetR p (Q.take (k + 1))) (j * 12 + (k + 1))) := Lib.hid (by rw [MM.out, HM.out, if_neg hle, List.append_nil]; exact ⟨MK.out.1.keep Db.out, Nat.le_succ_of_le MK.out.2⟩)
                have BZ := Lib.hid (btr BY.out Db.out)
                go_wp2
                go_roundw
                case rel => exact ⟨k + 1, by omega, by go_num, BZ.out, NR.out⟩
                case measure => simp [intOf]; omega
            · have hc2 : ¬ cmpv q.2 p.2 < 0 := by unfold cmpv; rw [if_neg hqp2]; split <;> decide
              obtain ⟨wa, rfl⟩ : ∃ wa : World, wa = w9 := ⟨_, rfl⟩
              have La := L9; have Ha := H9; have Da := D9
              have hwb : w8.heap.size ≤ wa.heap.size := hw9
              clear L9 H9 N9
              have HM : Hid (meet2 p q = (p.1, p.2)) := Lib.hid (by unfold meet2; simp only [Prod.mk.injEq]; refine ⟨?_, ?_⟩ <;> first | exact if_pos (by omega) | exact if_neg (by omega))
              have KC : Hid (∀ W, Calls Tryd.prog 26 #[.agg #[.bool (decide (p.1 < 0)), .int .u64 (lb 0 (p.1).natAbs), .int .u64 (lb 1 (p.1).natAbs), .int .u64 (lb 2 (p.1).natAbs), .int .u64 (lb 3 (p.1).natAbs)], .agg #[.bool (decide (p.2 < 0)), .int .u64 (lb 0 (p.2).natAbs), .int .u64 (lb 1 (p.2).natAbs), .int .u64 (lb 2 (p.2).natAbs), .int .u64 (lb 3 (p.2).natAbs)]] W fun e w' => e = .returned (.int .i64 (cmpv p.1 p.2)) ∧ Below W.heap.size W w') := Lib.hid (fun W => rcmpint_z _ _ (inR_abs.1 (by unfold inR; omega)) (inR_abs.1 (by unfold inR; omega)) W)
              obtain ⟨c0, c1, c2, c3, c4⟩ := La.parts
              obtain ⟨d0, d1, d2, d3, d4⟩ := Ha.parts
              go_wp2_with fail
              ((with_reducible refine (KC.out _).mono ?_); rintro e wb ⟨rfl, hb⟩)
              have Lb := La.keep hb; have Hb := Ha.keep hb
              have Db := Lib.hid (btr Da.out hb)
              clear hb c0 c1 c2 c3 c4 d0 d1 d2 d3 d4 La Ha
              by_cases hle : p.1 ≤ p.2
              · have hc3 : cmpv p.1 p.2 ≤ 0 := by unfold cmpv; split <;> (try split) <;> omega
                have ko := fun W => rof_any p.1 p.2 (by unfold inR; omega) (by unfold inR; omega) W
                obtain ⟨sl', sh', gl', xl', gh', xh', hrs'⟩ : ∃ hl hh gl xl gh xh, rsp (ofSp (p.1, p.2)) = ⟨hl, hh, gl, xl, gh, xh⟩ := ⟨_, _, _, _, _, _, rfl⟩
                rw [hrs'] at ko
                simp only [RS.val] at ko
                have KO2 : Hid (∀ W, Calls Tryd.prog 28 #[.agg #[.bool (decide (p.1 < 0)), .int .u64 (lb 0 (p.1).natAbs), .int .u64 (lb 1 (p.1).natAbs), .int .u64 (lb 2 (p.1).natAbs), .int .u64 (lb 3 (p.1).natAbs)], .agg #[.bool (decide (p.2 < 0)), .int .u64 (lb 0 (p.2).natAbs), .int .u64 (lb 1 (p.2).natAbs), .int .u64 (lb 2 (p.2).natAbs), .int .u64 (lb 3 (p.2).natAbs)]] W fun e w' => e = .returned (V12 sl' sh' gl' (lb 0 xl') (lb 1 xl') (lb 2 xl') (lb 3 xl') gh' (lb 0 xh') (lb 1 xh') (lb 2 xh') (lb 3 xh')) ∧ Below W.heap.size W w') := Lib.hid ko
                have RC : Hid ((rsp (ofSp (p.1, p.2))).cells = [.bool sl', .bool sh', .bool gl', .int .u64 (lb 0 xl'), .int .u64 (lb 1 xl'), .int .u64 (lb 2 xl'), .int .u64 (lb 3 xl'), .bool gh', .int .u64 (lb 0 xh'), .int .u64 (lb 1 xh'), .int .u64 (lb 2 xh'), .int .u64 (lb 3 xh')]) := Lib.hid (by rw [hrs']; rfl)
                clear ko hrs'
                obtain ⟨n, hn⟩ : ∃ n, (meetL (P.take j) Q ++ meetR p (Q.take k)).length = n := ⟨_, rfl⟩
                have hnl : n ≤ 1000 := by have := MK.out.2; omega
                have HOQ : Hid (wr.ownsRow w4.heap.size 35 12 u5 n (csS ((meetL (P.take j) Q ++ meetR p (Q.take k)).map fun p => rsp (ofSp p)))) := Lib.hid (by have := MK.out.1; unfold Bs at this; rw [List.length_map, hn] at this; exact this)
                have HNN := Lib.hid hn
                have hyw : w4.heap.size ≤ wr.heap.size := BY.out.size
                clear hn
                obtain ⟨c0, c1, c2, c3, c4⟩ := Lb.parts
                obtain ⟨d0, d1, d2, d3, d4⟩ := Hb.parts
                go_wp2_with fail
                ((with_reducible refine (KO2.out _).mono ?_); rintro e wc ⟨rfl, hb⟩)
                have Dc := Lib.hid (btr Db.out hb)
                have Oc := Lib.hid (own_keep9 HOQ.out Dc.out)
                have hsc : w4.heap.size ≤ wc.heap.size := Nat.le_trans hyw Dc.out.size
                clear hb c0 c1 c2 c3 c4 d0 d1 d2 d3 d4 Lb Hb
                go_wp2_with (at_builtin; refine wpList_append_lies _ rfl (.tmp 68) (.tmp 72) 22 rfl w4.heap.size 35 i0 (V12 false false false 0 0 0 0 false 0 0 0 0) 12 88 und_spans hi0 hz0 hz1 hz2 rfl (by decide) u5 n _ rfl (own_keep9 Oc.out (by repeat (first | (with_reducible exact Below.refl _ _) | (with_reducible refine bal ?_ _) | (with_reducible refine Below.drew ?_) | (with_reducible refine bdn ?_ _)))) ⟨wc.heap.size, 0, none⟩ 1 1 _ rfl rfl (news9 _ _ _ _ (by simp)) (by rw [← RC.out]; exact RS.cells_one _) (by decide) (by unfold maxLen; omega) (by omega) (by simp <;> omega) _ rfl ?_; intro g2 cap2 wz hown2 hgr2 hat2 hlt2; have HO2 := Lib.hid hown2; have BZ := Lib.hid (Below.grown (bal (btr BY.out Dc.out) _) hgr2 (by simp <;> omega) (fun q hq => (own_base9 HOQ.out q hq).1)); clear hown2 hgr2 hat2 hlt2)
                have NR : Hid (Mt wz w4.heap.size (.slice (some ⟨g2, 0, none⟩) (n + 1) cap2) (meetL (P.take j) Q ++ meetR p (Q.take (k + 1))) (j * 12 + (k + 1))) := Lib.hid (by rw [MM.out, HM.out, if_pos hle]; refine ⟨?_, by have := MK.out.2; rw [List.length_append]; simp only [List.length_singleton]; omega⟩; rw [List.map_append]; exact Bs.snoc (r := rsp (ofSp (p.1, p.2))) (by rw [List.length_map, HNN.out]; exact HO2.out) RC.out)
                go_roundw
                case rel => exact ⟨k + 1, by omega, by go_num, BZ.out, NR.out⟩
                case measure => simp [intOf]; omega
              · exact absurd r2 hle
        · have hge : ¬ (k : Int) < (Q.length : Int) := by omega
          have ME : Hid (Mt wr w4.heap.size u5 (meetL (P.take (j + 1)) Q) ((j + 1) * 12)) := Lib.hid (by have := MK.out; rw [show Q.take k = Q from List.take_of_length_le (by omega)] at this; rw [MN.out]; exact ⟨this.1, by have := this.2; omega⟩)
          go_wp2
          go_roundw
          case rel => exact ⟨j + 1, by omega, by go_num, BY.out, ME.out⟩
          case measure => simp [intOf]; omega
    · have hge : ¬ (j : Int) < (P.length : Int) := by omega
      have ME : Hid (Mt wo w4.heap.size u5 (meetL P Q) (P.length * 12)) := Lib.hid (by have := MT.out; rw [show P.take j = P from List.take_of_length_le (by omega)] at this; exact ⟨this.1, by have := this.2; omega⟩)
      have HLE : Hid ((meetL P Q).length ≤ 144) := Lib.hid (by have := ME.out.2; omega)
      go_wp2
      go_ret
      exact ⟨_, rfl, meetL P Q, own_mono9 ME.out.1 hs4, meetL_isN HNP.out HNQ.out, HLE.out, btr B4.out BX.out⟩
end Go.Proofs.YtjlgiejggcbgbaaDoor
end
section
namespace Go.Proofs.YtjlgiejggcbgbaaDoor
open Go.RowKit Go.Shelf
attribute [local go_sem ↓] eql_nat neq_nat eql_int5 neq_int5

theorem rnorm_no (a : Value) (w : World) (k1 : (∀ W, Below w.heap.size w W → Calls Tryd.prog 7 #[a] W fun e w' => e = .returned (.bool false) ∧ Below W.heap.size W w')) : Calls Tryd.prog 10 #[a] w fun e w' => e = .returned (.slice none 0 0) ∧ Below w.heap.size w w' := by
  have K1 := Lib.hid k1; clear k1
  go_enter Tryd.func10, Tryd.ntmps10
  go_wp2_with fail
  ((with_reducible refine (K1.out _ (Below.refl _ _)).mono ?_); rintro e w1 ⟨rfl, hb⟩)
  go_wp2
  go_ret
  exact ⟨rfl, hb⟩
theorem rnot_no (a : Value) (w : World) (k1 : (∀ W, Below w.heap.size w W → Calls Tryd.prog 7 #[a] W fun e w' => e = .returned (.bool false) ∧ Below W.heap.size W w')) : Calls Tryd.prog 12 #[a] w fun e w' => e = .returned (.slice none 0 0) ∧ Below w.heap.size w w' := by
  have K1 := Lib.hid k1; clear k1
  go_enter Tryd.func12, Tryd.ntmps12
  go_wp2_with fail
  ((with_reducible refine (K1.out _ (Below.refl _ _)).mono ?_); rintro e w1 ⟨rfl, hb⟩)
  go_wp2
  go_ret
  exact ⟨rfl, hb⟩
theorem ror_no (a b : Value) (w : World) (m n : Bool) (h : (m && n) = false) (k1 : (∀ W, Below w.heap.size w W → Calls Tryd.prog 7 #[a] W fun e w' => e = .returned (.bool m) ∧ Below W.heap.size W w')) (k2 : (∀ W, Below w.heap.size w W → Calls Tryd.prog 7 #[b] W fun e w' => e = .returned (.bool n) ∧ Below W.heap.size W w')) : Calls Tryd.prog 14 #[a, b] w fun e w' => e = .returned (.slice none 0 0) ∧ Below w.heap.size w w' := by
  have K1 := Lib.hid k1; have K2 := Lib.hid k2; clear k1 k2
  cases m with
  | false =>
    clear h
    go_enter Tryd.func14, Tryd.ntmps14
    go_wp2_with fail
    ((with_reducible refine (K1.out _ (Below.refl _ _)).mono ?_); rintro e w1 ⟨rfl, hb⟩)
    go_wp2
    go_ret
    exact ⟨rfl, hb⟩
  | true =>
    obtain rfl : n = false := h
    go_enter Tryd.func14, Tryd.ntmps14
    go_wp2_with fail
    ((with_reducible refine (K1.out _ (Below.refl _ _)).mono ?_); rintro e w1 ⟨rfl, hb⟩)
    go_wp2_with fail
    ((with_reducible refine (K2.out _ hb).mono ?_); rintro e w2 ⟨rfl, hb2⟩)
    go_wp2
    go_ret
    exact ⟨rfl, btr hb hb2⟩
theorem rand_no (a b : Value) (w : World) (m n : Bool) (h : (m && n) = false) (k1 : (∀ W, Below w.heap.size w W → Calls Tryd.prog 7 #[a] W fun e w' => e = .returned (.bool m) ∧ Below W.heap.size W w')) (k2 : (∀ W, Below w.heap.size w W → Calls Tryd.prog 7 #[b] W fun e w' => e = .returned (.bool n) ∧ Below W.heap.size W w')) : Calls Tryd.prog 16 #[a, b] w fun e w' => e = .returned (.slice none 0 0) ∧ Below w.heap.size w w' := by
  have K1 := Lib.hid k1; have K2 := Lib.hid k2; clear k1 k2
  cases m with
  | false =>
    clear h
    go_enter Tryd.func16, Tryd.ntmps16
    go_wp2_with fail
    ((with_reducible refine (K1.out _ (Below.refl _ _)).mono ?_); rintro e w1 ⟨rfl, hb⟩)
    go_wp2
    go_ret
    exact ⟨rfl, hb⟩
  | true =>
    obtain rfl : n = false := h
    go_enter Tryd.func16, Tryd.ntmps16
    go_wp2_with fail
    ((with_reducible refine (K1.out _ (Below.refl _ _)).mono ?_); rintro e w1 ⟨rfl, hb⟩)
    go_wp2_with fail
    ((with_reducible refine (K2.out _ hb).mono ?_); rintro e w2 ⟨rfl, hb2⟩)
    go_wp2
    go_ret
    exact ⟨rfl, btr hb hb2⟩
theorem sweep_no (a b : Value) (g : Value) (w : World) (m n : Bool) (h : (m && n) = false) (k1 : (∀ W, Below w.heap.size w W → Calls Tryd.prog 6 #[a] W fun e w' => e = .returned (.bool m) ∧ Below W.heap.size W w')) (k2 : (∀ W, Below w.heap.size w W → Calls Tryd.prog 6 #[b] W fun e w' => e = .returned (.bool n) ∧ Below W.heap.size W w')) : Calls Tryd.prog 29 #[a, b, g] w fun e w' => e = .returned (.slice none 0 0) ∧ Below w.heap.size w w' := by
  have K1 := Lib.hid k1; have K2 := Lib.hid k2; clear k1 k2
  cases m with
  | false =>
    clear h
    go_enter Tryd.func29, Tryd.ntmps29
    go_wp2_with fail
    ((with_reducible refine (K1.out _ (Below.refl _ _)).mono ?_); rintro e w1 ⟨rfl, hb⟩)
    go_wp2
    go_ret
    exact ⟨rfl, hb⟩
  | true =>
    obtain rfl : n = false := h
    go_enter Tryd.func29, Tryd.ntmps29
    go_wp2_with fail
    ((with_reducible refine (K1.out _ (Below.refl _ _)).mono ?_); rintro e w1 ⟨rfl, hb⟩)
    go_wp2_with fail
    ((with_reducible refine (K2.out _ hb).mono ?_); rintro e w2 ⟨rfl, hb2⟩)
    go_wp2
    go_ret
    exact ⟨rfl, btr hb hb2⟩
theorem or_no (a b : Value) (w : World) (m n : Bool) (h : (m && n) = false) (k1 : (∀ W, Below w.heap.size w W → Calls Tryd.prog 6 #[a] W fun e w' => e = .returned (.bool m) ∧ Below W.heap.size W w')) (k2 : (∀ W, Below w.heap.size w W → Calls Tryd.prog 6 #[b] W fun e w' => e = .returned (.bool n) ∧ Below W.heap.size W w')) : Calls Tryd.prog 13 #[a, b] w fun e w' => e = .returned (.slice none 0 0) ∧ Below w.heap.size w w' := by
  have K := Lib.hid (fun g => sweep_no a b g w m n h k1 k2)
  clear k1 k2
  go_enter Tryd.func13, Tryd.ntmps13
  go_wp2_with fail
  ((with_reducible refine (K.out _).mono ?_); rintro e w1 ⟨rfl, hb⟩)
  go_wp2
  go_ret
  exact ⟨rfl, hb⟩
theorem and_no (a b : Value) (w : World) (m n : Bool) (h : (m && n) = false) (k1 : (∀ W, Below w.heap.size w W → Calls Tryd.prog 6 #[a] W fun e w' => e = .returned (.bool m) ∧ Below W.heap.size W w')) (k2 : (∀ W, Below w.heap.size w W → Calls Tryd.prog 6 #[b] W fun e w' => e = .returned (.bool n) ∧ Below W.heap.size W w')) : Calls Tryd.prog 15 #[a, b] w fun e w' => e = .returned (.slice none 0 0) ∧ Below w.heap.size w w' := by
  have K := Lib.hid (fun g => sweep_no a b g w m n h k1 k2)
  clear k1 k2
  go_enter Tryd.func15, Tryd.ntmps15
  go_wp2_with fail
  ((with_reducible refine (K.out _).mono ?_); rintro e w1 ⟨rfl, hb⟩)
  go_wp2
  go_ret
  exact ⟨rfl, hb⟩
theorem not_no (a : Value) (w : World) (k1 : (∀ W, Below w.heap.size w W → Calls Tryd.prog 6 #[a] W fun e w' => e = .returned (.bool false) ∧ Below W.heap.size W w')) : Calls Tryd.prog 11 #[a] w fun e w' => e = .returned (.slice none 0 0) ∧ Below w.heap.size w w' := by
  have K := Lib.hid (fun g => sweep_no a (.slice none 0 0) g w false true rfl k1 (fun W _ => may_in (In9.nil W)))
  clear k1
  go_enter Tryd.func11, Tryd.ntmps11
  go_wp2_with fail
  ((with_reducible refine (K.out _).mono ?_); rintro e w1 ⟨rfl, hb⟩)
  go_wp2
  go_ret
  exact ⟨rfl, hb⟩
theorem norm_no (a : Value) (w : World) (k1 : (∀ W, Below w.heap.size w W → Calls Tryd.prog 6 #[a] W fun e w' => e = .returned (.bool false) ∧ Below W.heap.size W w')) : Calls Tryd.prog 9 #[a] w fun e w' => e = .returned (.slice none 0 0) ∧ Below w.heap.size w w' := by
  have K := Lib.hid (or_no a (.slice none 0 0) w false true rfl k1 (fun W _ => may_in (In9.nil W)))
  clear k1
  go_enter Tryd.func9, Tryd.ntmps9
  go_wp2_with fail
  ((with_reducible refine K.out.mono ?_); rintro e w1 ⟨rfl, hb⟩)
  go_wp2
  go_ret
  exact ⟨rfl, hb⟩
theorem same_no (a b : Value) (w : World) (m n : Bool) (h : (m && n) = false) (k1 : (∀ W, Below w.heap.size w W → Calls Tryd.prog 6 #[a] W fun e w' => e = .returned (.bool m) ∧ Below W.heap.size W w')) (k2 : (∀ W, Below w.heap.size w W → Calls Tryd.prog 6 #[b] W fun e w' => e = .returned (.bool n) ∧ Below W.heap.size W w')) : Calls Tryd.prog 17 #[a, b] w fun e w' => e = .returned (.bool false) ∧ Below w.heap.size w w' := by
  have K1 := Lib.hid k1; have K2 := Lib.hid k2; clear k1 k2
  cases m with
  | false =>
    clear h
    go_enter Tryd.func17, Tryd.ntmps17
    go_wp2_with fail
    ((with_reducible refine (K1.out _ (Below.refl _ _)).mono ?_); rintro e w1 ⟨rfl, hb⟩)
    go_wp2
    go_ret
    exact ⟨rfl, hb⟩
  | true =>
    obtain rfl : n = false := h
    go_enter Tryd.func17, Tryd.ntmps17
    go_wp2_with fail
    ((with_reducible refine (K1.out _ (Below.refl _ _)).mono ?_); rintro e w1 ⟨rfl, hb⟩)
    go_wp2_with fail
    ((with_reducible refine (K2.out _ hb).mono ?_); rintro e w2 ⟨rfl, hb2⟩)
    go_wp2
    go_ret
    exact ⟨rfl, btr hb hb2⟩
end Go.Proofs.YtjlgiejggcbgbaaDoor
end
section
namespace Go.Proofs.YtjlgiejggcbgbaaDoor
open Go.RowKit Go.Shelf
attribute [local go_sem ↓] eql_nat neq_nat eql_int5 neq_int5

theorem few_any (la : Option Addr) (n lca : Nat) (lb : Option Addr) (m lcb : Nat) (w : World) : Calls Tryd.prog 4 #[.slice la n lca, .slice lb m lcb] w fun e w' => e = .returned (.bool (decide (n ≤ 12) && decide (m ≤ 12))) ∧ w = w' := by
  by_cases h1 : n ≤ 12 <;> by_cases h2 : m ≤ 12
  all_goals
    have HD1 := Lib.hid h1; have HD2 := Lib.hid h2
    have e1 : (n : Int) ≤ 12 ∨ ¬ (n : Int) ≤ 12 := by omega
    have e2 : (m : Int) ≤ 12 ∨ ¬ (m : Int) ≤ 12 := by omega
    go_enter Tryd.func4, Tryd.ntmps4
    rcases e1 with e1 | e1 <;> rcases e2 with e2 | e2 <;> first | (exfalso; have a1 := HD1.out; have a2 := HD2.out; omega) | (go_wp2; go_ret; exact ⟨ret_bool9 (by simp [HD1.out, HD2.out]), rfl⟩)
theorem in9_of {w : World} {la : Option Addr} {lc : Nat} {l : List RS} {bb off : Nat} (hK : Ls w la l bb off) (h1 : l.length ≤ lc) (h2 : lc ≤ maxLen) (hx : ∀ r ∈ l, r.xl < 2 ^ 256 ∧ r.xh < 2 ^ 256) (hm : mayL l = true) : ∃ A : List Sp, l = A.map rsp ∧ In9 w (.slice la l.length lc) A := by
  unfold mayL at hm
  rw [Bool.and_eq_true] at hm
  obtain ⟨A, rfl, hR⟩ := rsp_list hx hm.2
  have h0 := of_decide_eq_true hm.1
  rw [List.length_map] at *
  exact ⟨A, rfl, la, lc, bb, off, rfl, hK, h1, h2, hR, h0⟩
/-- Two calls of the same arguments whose answers are the same. -/
def Pair (w : World) (f g : Nat) (args : Array Value) : Prop := ∃ R S : World → Value → Prop, (∀ W W' v, R W v → Below W.heap.size W W' → R W' v) ∧ (∀ W W' v, S W v → Below W.heap.size W W' → S W' v) ∧
  (∀ W, Below w.heap.size w W → Calls Tryd.prog f args W fun e w' => ∃ v, e = .returned v ∧ R w' v ∧ Below W.heap.size W w') ∧
  (∀ W, Below w.heap.size w W → Calls Tryd.prog g args W fun e w' => ∃ v, e = .returned v ∧ S w' v ∧ Below W.heap.size W w') ∧
  (∀ W v u, R W v → S W u → Calls Tryd.prog 8 #[v, u] W fun e w' => e = .returned (.bool true) ∧ Below W.heap.size W w')
theorem rsame_nil (W : World) : Calls Tryd.prog 8 #[.slice none 0 0, .slice none 0 0] W fun e w' => e = .returned (.bool true) ∧ Below W.heap.size W w' := rsame none none 0 0 [] [] 0 0 0 0 W (Ls.nil W none) (Ls.nil W none)
theorem pair_no {w : World} {f g : Nat} {args : Array Value} (h1 : ∀ W, Below w.heap.size w W → Calls Tryd.prog f args W fun e w' => e = .returned (.slice none 0 0) ∧ Below W.heap.size W w') (h2 : ∀ W, Below w.heap.size w W → Calls Tryd.prog g args W fun e w' => e = .returned (.slice none 0 0) ∧ Below W.heap.size W w') : Pair w f g args :=
  ⟨fun _ v => v = .slice none 0 0, fun _ v => v = .slice none 0 0, fun _ _ _ h _ => h, fun _ _ _ h _ => h, fun W hW => (h1 W hW).mono fun _ _ h => ⟨_, h.1, rfl, h.2⟩, fun W hW => (h2 W hW).mono fun _ _ h => ⟨_, h.1, rfl, h.2⟩, fun W _ _ hv hu => by subst hv hu; exact rsame_nil W⟩
theorem pair_yes {w : World} {f g : Nat} {args : Array Value} {s : Int → Bool} {k m : Nat} (h1 : ∀ W, Below w.heap.size w W → Calls Tryd.prog f args W (Sets W s k)) (h2 : ∀ W, Below w.heap.size w W → Calls Tryd.prog g args W (Sets W s m)) : Pair w f g args :=
  ⟨fun W v => NS W v s k, fun W v => NS W v s m, fun _ _ _ h hb => h.keep hb, fun _ _ _ h hb => h.keep hb, fun W hW => (h1 W hW).mono fun _ _ h => h.ns (fun _ _ _ => rfl) (Nat.le_refl _), fun W hW => (h2 W hW).mono fun _ _ h => h.ns (fun _ _ _ => rfl) (Nat.le_refl _), fun _ _ _ hv hu => rsame_ns hv hu (fun _ _ _ => rfl)⟩
/-- The two Norms of the reference, and whether they are the same. -/
def Two (w : World) (a b : Value) (q : Bool) : Prop := ∃ R S : World → Value → Prop, (∀ W W' v, R W v → Below W.heap.size W W' → R W' v) ∧
  (∀ W, Below w.heap.size w W → Calls Tryd.prog 10 #[a] W fun e w' => ∃ v, e = .returned v ∧ R w' v ∧ Below W.heap.size W w') ∧
  (∀ W, Below w.heap.size w W → Calls Tryd.prog 10 #[b] W fun e w' => ∃ v, e = .returned v ∧ S w' v ∧ Below W.heap.size W w') ∧
  (∀ W v u, R W v → S W u → Calls Tryd.prog 8 #[v, u] W fun e w' => e = .returned (.bool q) ∧ Below W.heap.size W w')
theorem rsame_two {w : World} {a b : Value} {A B : List Sp} {k m : Nat} {q : Bool} (hq : SameQ A B q) (ha : NS w a (fun x => memS A x) k) (hb : NS w b (fun x => memS B x) m) : Calls Tryd.prog 8 #[a, b] w fun e w' => e = .returned (.bool q) ∧ Below w.heap.size w w' := by
  obtain ⟨la, lca, ba, P, rfl, a2, a3, a4, a5, a6⟩ := ha
  obtain ⟨lb', lcb, bb, Q, rfl, b2, b3, b4, b5, b6⟩ := hb
  have := rsame la lb' lca lcb _ _ ba 0 bb 0 w a2 b2
  have e : eqL (P.map fun p => rsp (ofSp p)) (Q.map fun p => rsp (ofSp p)) = q := by
    have h1 := eqL_same a5 b5
    unfold SameQ at h1 hq
    rw [Bool.eq_iff_iff, h1, hq]
  rw [e, List.length_map, List.length_map] at this
  exact this
theorem zero_ls (W : World) (e : TypeId) (he : e = 35) : Ls (W.alloc (.cells #[.bool false, .bool false, .bool false, .int .u64 0, .int .u64 0, .int .u64 0, .int .u64 0, .bool false, .int .u64 0, .int .u64 0, .int .u64 0, .int .u64 0] e)) (some ⟨W.heap.size, 0, none⟩) [rsp (none, none)] W.heap.size 0 := by
  subst he
  refine ⟨fun _ => rfl, fun i r hr j u hu => ?_, by simp⟩
  match i, hr with
  | 0, hr =>
    simp at hr
    subst hr
    have e0 : (rsp (none, none)).cells = (#[.bool false, .bool false, .bool false, .int .u64 0, .int .u64 0, .int .u64 0, .int .u64 0, .bool false, .int .u64 0, .int .u64 0, .int .u64 0, .int .u64 0] : Array Value).toList := zero_cells
    rw [e0] at hu
    have := news9 W _ 35 W.heap.size rfl j u hu
    rw [addr_add9] at this
    rw [show 0 + 0 * 12 + j = 0 + j by omega]
    exact this
set_option maxRecDepth 400000 in
set_option maxHeartbeats 8000000 in
theorem sets_tt (la : Option Addr) (n lca : Nat) (la2 : Option Addr) (m lcb : Nat) (w : World) (hT : Tb w) (h1 : n ≤ 12) (h2 : m ≤ 12) (q : Bool)
    (pN : Pair w 9 10 #[.slice la n lca]) (pT : Pair w 11 12 #[.slice la n lca]) (pO : Pair w 13 14 #[.slice la n lca, .slice la2 m lcb]) (pA : Pair w 15 16 #[.slice la n lca, .slice la2 m lcb])
    (k1 : (∀ W, Below w.heap.size w W → Calls Tryd.prog 6 #[.slice la n lca] W fun e w' => e = .returned (.bool true) ∧ Below W.heap.size W w')) (k2 : (∀ W, Below w.heap.size w W → Calls Tryd.prog 7 #[.slice la n lca] W fun e w' => e = .returned (.bool true) ∧ Below W.heap.size W w')) (k3 : (∀ W, Below w.heap.size w W → Calls Tryd.prog 7 #[.slice la2 m lcb] W fun e w' => e = .returned (.bool true) ∧ Below W.heap.size W w')) (k4 : (∀ W, Below w.heap.size w W → Calls Tryd.prog 17 #[.slice la n lca, .slice la2 m lcb] W fun e w' => e = .returned (.bool q) ∧ Below W.heap.size W w')) (k5 : Two w (.slice la n lca) (.slice la2 m lcb) q) :
    Calls Tryd.prog 3 #[.slice la n lca, .slice la2 m lcb] w fun e w' => e = .returned (.bool true) ∧ Below w.heap.size w w' := by
  obtain ⟨R0, S0, pn1, pn2, pn3, pn4, pn5⟩ := pN
  obtain ⟨Rt, St, pt1, pt2, pt3, pt4, pt5⟩ := pT
  obtain ⟨Ro, So, po1, po2, po3, po4, po5⟩ := pO
  obtain ⟨Ra, Sa, pa1, pa2, pa3, pa4, pa5⟩ := pA
  have PNk := Lib.hid pn1; have PNf := Lib.hid pn3; have PNg := Lib.hid pn4; have PNs := Lib.hid pn5
  have PTk := Lib.hid pt1; have PTf := Lib.hid pt3; have PTg := Lib.hid pt4; have PTs := Lib.hid pt5
  have POk := Lib.hid po1; have POf := Lib.hid po3; have POg := Lib.hid po4; have POs := Lib.hid po5
  have PAk := Lib.hid pa1; have PAf := Lib.hid pa3; have PAg := Lib.hid pa4; have PAs := Lib.hid pa5
  have hfew := few_any la n lca la2 m lcb w
  rw [decide_eq_true h1, decide_eq_true h2] at hfew
  have HFW := Lib.hid hfew; have HT := Lib.hid hT; have K1 := Lib.hid k1; have K2 := Lib.hid k2; have K3 := Lib.hid k3; have K4 := Lib.hid k4
  obtain ⟨R9x, S9x, t1, t2, t3, t4⟩ := k5
  have TK := Lib.hid t1; have TA := Lib.hid t2; have TB := Lib.hid t3; have TS := Lib.hid t4
  clear t1 t2 t3 t4
  clear hfew hT h1 h2 k1 k2 k3 k4 pn1 pn2 pn3 pn4 pn5 pt1 pt2 pt3 pt4 pt5 po1 po2 po3 po4 po5 pa1 pa2 pa3 pa4 pa5
  go_enter Tryd.func3, Tryd.ntmps3
  go_wp2_with fail
  ((with_reducible refine HFW.out.mono ?_); rintro e w1 ⟨rfl, rfl⟩)
  go_wp2_with fail
  ((with_reducible refine (K1.out _ (Below.refl _ _)).mono ?_); rintro e w2 ⟨rfl, hb⟩)
  have D2 := Lib.hid (btr (Below.refl _ _) hb)
  clear hb
  go_wp2_with fail
  ((with_reducible refine (K2.out _ D2.out).mono ?_); rintro e w3 ⟨rfl, hb⟩)
  have D3 := Lib.hid (btr D2.out hb)
  clear hb
  go_wp2_with fail
  ((with_reducible refine (PNf.out _ D3.out).mono ?_); rintro e w4 ⟨v0, rfl, hr, hb⟩)
  have D4 := Lib.hid (btr D3.out hb)
  have R0 := Lib.hid hr; clear hr
  clear hb
  go_wp2_with fail
  ((with_reducible refine (PNg.out _ D4.out).mono ?_); rintro e w5 ⟨u0, rfl, hs, hb⟩)
  have D5 := Lib.hid (btr D4.out hb)
  have S0 := Lib.hid hs; have R0' := Lib.hid (PNk.out _ _ _ R0.out hb); clear hs
  clear hb
  go_wp2_with fail
  ((with_reducible refine (PNs.out _ _ _ R0'.out S0.out).mono ?_); rintro e w6 ⟨rfl, hb⟩)
  have D6 := Lib.hid (btr D5.out hb)
  clear hb
  go_wp2_with fail
  ((with_reducible refine (PTf.out _ D6.out).mono ?_); rintro e w7 ⟨v1, rfl, hr, hb⟩)
  have D7 := Lib.hid (btr D6.out hb)
  have R1 := Lib.hid hr; clear hr
  clear hb
  go_wp2_with fail
  ((with_reducible refine (PTg.out _ D7.out).mono ?_); rintro e w8 ⟨u1, rfl, hs, hb⟩)
  have D8 := Lib.hid (btr D7.out hb)
  have S1 := Lib.hid hs; have R1' := Lib.hid (PTk.out _ _ _ R1.out hb); clear hs
  clear hb
  go_wp2_with fail
  ((with_reducible refine (PTs.out _ _ _ R1'.out S1.out).mono ?_); rintro e w9 ⟨rfl, hb⟩)
  have D9 := Lib.hid (btr D8.out hb)
  clear hb
  go_wp2_with fail
  ((with_reducible refine (POf.out _ D9.out).mono ?_); rintro e w10 ⟨v2, rfl, hr, hb⟩)
  have D10 := Lib.hid (btr D9.out hb)
  have R2 := Lib.hid hr; clear hr
  clear hb
  go_wp2_with fail
  ((with_reducible refine (POg.out _ D10.out).mono ?_); rintro e w11 ⟨u2, rfl, hs, hb⟩)
  have D11 := Lib.hid (btr D10.out hb)
  have S2 := Lib.hid hs; have R2' := Lib.hid (POk.out _ _ _ R2.out hb); clear hs
  clear hb
  go_wp2_with fail
  ((with_reducible refine (POs.out _ _ _ R2'.out S2.out).mono ?_); rintro e w12 ⟨rfl, hb⟩)
  have D12 := Lib.hid (btr D11.out hb)
  clear hb
  go_wp2_with fail
  ((with_reducible refine (PAf.out _ D12.out).mono ?_); rintro e w13 ⟨v3, rfl, hr, hb⟩)
  have D13 := Lib.hid (btr D12.out hb)
  have R3 := Lib.hid hr; clear hr
  clear hb
  go_wp2_with fail
  ((with_reducible refine (PAg.out _ D13.out).mono ?_); rintro e w14 ⟨u3, rfl, hs, hb⟩)
  have D14 := Lib.hid (btr D13.out hb)
  have S3 := Lib.hid hs; have R3' := Lib.hid (PAk.out _ _ _ R3.out hb); clear hs
  clear hb
  go_wp2_with fail
  ((with_reducible refine (PAs.out _ _ _ R3'.out S3.out).mono ?_); rintro e w15 ⟨rfl, hb⟩)
  have D15 := Lib.hid (btr D14.out hb)
  clear hb
  go_wp2_with fail
  ((with_reducible refine (K2.out _ D15.out).mono ?_); rintro e w16 ⟨rfl, hb⟩)
  have D16 := Lib.hid (btr D15.out hb)
  clear hb
  go_wp2_with fail
  ((with_reducible refine (K3.out _ D16.out).mono ?_); rintro e w17 ⟨rfl, hb⟩)
  have D17 := Lib.hid (btr D16.out hb)
  clear hb
  go_wp2_with fail
  ((with_reducible refine (TA.out _ D17.out).mono ?_); rintro e w18 ⟨v9, rfl, hr, hb⟩)
  have D18 := Lib.hid (btr D17.out hb)
  have R9 := Lib.hid hr; clear hr
  clear hb
  go_wp2_with fail
  ((with_reducible refine (TB.out _ D18.out).mono ?_); rintro e w19 ⟨u9, rfl, hs, hb⟩)
  have D19 := Lib.hid (btr D18.out hb)
  have S9 := Lib.hid hs; have R9' := Lib.hid (TK.out _ _ _ R9.out hb); clear hs
  clear hb
  go_wp2_with fail
  ((with_reducible refine (TS.out _ _ _ R9'.out S9.out).mono ?_); rintro e w20 ⟨rfl, hb⟩)
  have D20 := Lib.hid (btr D19.out hb)
  clear hb
  cases q
  all_goals
    go_wp2_with fail
    ((with_reducible refine (told9_true _ (tb_on HT.out D20.out)).mono ?_); rintro e w21 ⟨rfl, hb⟩)
    have D21 := Lib.hid (btr D20.out hb)
    clear hb
    go_wp2_with fail
    ((with_reducible refine (K4.out _ D21.out).mono ?_); rintro e w22 ⟨rfl, hb⟩)
    have D22 := Lib.hid (btr D21.out hb)
    clear hb
    go_wp2_with fail
    ((with_reducible refine (all_one _).mono ?_); rintro e w23 ⟨g8, rfl, hI, hb⟩)
    have D23 := Lib.hid (btr D22.out hb)
    have I8 := Lib.hid hI; clear hI
    clear hb
    have ZS : Hid (∀ W, Below (w23.alloc (.cells #[.bool false, .bool false, .bool false, .int .u64 0, .int .u64 0, .int .u64 0, .int .u64 0, .bool false, .int .u64 0, .int .u64 0, .int .u64 0, .int .u64 0] 35)).heap.size (w23.alloc (.cells #[.bool false, .bool false, .bool false, .int .u64 0, .int .u64 0, .int .u64 0, .int .u64 0, .bool false, .int .u64 0, .int .u64 0, .int .u64 0, .int .u64 0] 35)) W → Calls Tryd.prog 8 #[.slice (some ⟨g8, 0, none⟩) 1 1, .slice (some ⟨w23.heap.size, 0, none⟩) 1 1] W fun e w' => e = .returned (.bool true) ∧ Below W.heap.size W w') := Lib.hid (fun W hW => by
      obtain ⟨l9, c9, b9, o9, h9, hL9, _⟩ := I8.out
      obtain ⟨rfl, rfl⟩ : some ⟨g8, 0, none⟩ = l9 ∧ 1 = c9 := by injection h9; exact ⟨by assumption, by assumption⟩
      have := rsame _ _ 1 1 _ _ _ _ _ _ W ((hL9.keep (bal (Below.refl _ _) _)).keep hW) ((zero_ls w23 _ rfl).keep hW)
      exact this)
    go_wp2_with fail
    ((with_reducible refine (ZS.out _ (Below.refl _ _)).mono ?_); rintro e wz ⟨rfl, hb⟩)
    go_wp2
    go_ret
    exact ⟨rfl, btr (bal D23.out _) hb⟩
set_option maxRecDepth 400000 in
set_option maxHeartbeats 8000000 in
theorem sets_tf (la : Option Addr) (n lca : Nat) (la2 : Option Addr) (m lcb : Nat) (w : World) (hT : Tb w) (h1 : n ≤ 12) (h2 : m ≤ 12)
    (pN : Pair w 9 10 #[.slice la n lca]) (pT : Pair w 11 12 #[.slice la n lca]) (pO : Pair w 13 14 #[.slice la n lca, .slice la2 m lcb]) (pA : Pair w 15 16 #[.slice la n lca, .slice la2 m lcb])
    (k1 : (∀ W, Below w.heap.size w W → Calls Tryd.prog 6 #[.slice la n lca] W fun e w' => e = .returned (.bool true) ∧ Below W.heap.size W w')) (k2 : (∀ W, Below w.heap.size w W → Calls Tryd.prog 7 #[.slice la n lca] W fun e w' => e = .returned (.bool true) ∧ Below W.heap.size W w')) (k3 : (∀ W, Below w.heap.size w W → Calls Tryd.prog 7 #[.slice la2 m lcb] W fun e w' => e = .returned (.bool false) ∧ Below W.heap.size W w')) (k4 : (∀ W, Below w.heap.size w W → Calls Tryd.prog 17 #[.slice la n lca, .slice la2 m lcb] W fun e w' => e = .returned (.bool false) ∧ Below W.heap.size W w')) :
    Calls Tryd.prog 3 #[.slice la n lca, .slice la2 m lcb] w fun e w' => e = .returned (.bool true) ∧ Below w.heap.size w w' := by
  obtain ⟨R0, S0, pn1, pn2, pn3, pn4, pn5⟩ := pN
  obtain ⟨Rt, St, pt1, pt2, pt3, pt4, pt5⟩ := pT
  obtain ⟨Ro, So, po1, po2, po3, po4, po5⟩ := pO
  obtain ⟨Ra, Sa, pa1, pa2, pa3, pa4, pa5⟩ := pA
  have PNk := Lib.hid pn1; have PNf := Lib.hid pn3; have PNg := Lib.hid pn4; have PNs := Lib.hid pn5
  have PTk := Lib.hid pt1; have PTf := Lib.hid pt3; have PTg := Lib.hid pt4; have PTs := Lib.hid pt5
  have POk := Lib.hid po1; have POf := Lib.hid po3; have POg := Lib.hid po4; have POs := Lib.hid po5
  have PAk := Lib.hid pa1; have PAf := Lib.hid pa3; have PAg := Lib.hid pa4; have PAs := Lib.hid pa5
  have hfew := few_any la n lca la2 m lcb w
  rw [decide_eq_true h1, decide_eq_true h2] at hfew
  have HFW := Lib.hid hfew; have HT := Lib.hid hT; have K1 := Lib.hid k1; have K2 := Lib.hid k2; have K3 := Lib.hid k3; have K4 := Lib.hid k4
  clear hfew hT h1 h2 k1 k2 k3 k4 pn1 pn2 pn3 pn4 pn5 pt1 pt2 pt3 pt4 pt5 po1 po2 po3 po4 po5 pa1 pa2 pa3 pa4 pa5
  go_enter Tryd.func3, Tryd.ntmps3
  go_wp2_with fail
  ((with_reducible refine HFW.out.mono ?_); rintro e w1 ⟨rfl, rfl⟩)
  go_wp2_with fail
  ((with_reducible refine (K1.out _ (Below.refl _ _)).mono ?_); rintro e w2 ⟨rfl, hb⟩)
  have D2 := Lib.hid (btr (Below.refl _ _) hb)
  clear hb
  go_wp2_with fail
  ((with_reducible refine (K2.out _ D2.out).mono ?_); rintro e w3 ⟨rfl, hb⟩)
  have D3 := Lib.hid (btr D2.out hb)
  clear hb
  go_wp2_with fail
  ((with_reducible refine (PNf.out _ D3.out).mono ?_); rintro e w4 ⟨v0, rfl, hr, hb⟩)
  have D4 := Lib.hid (btr D3.out hb)
  have R0 := Lib.hid hr; clear hr
  clear hb
  go_wp2_with fail
  ((with_reducible refine (PNg.out _ D4.out).mono ?_); rintro e w5 ⟨u0, rfl, hs, hb⟩)
  have D5 := Lib.hid (btr D4.out hb)
  have S0 := Lib.hid hs; have R0' := Lib.hid (PNk.out _ _ _ R0.out hb); clear hs
  clear hb
  go_wp2_with fail
  ((with_reducible refine (PNs.out _ _ _ R0'.out S0.out).mono ?_); rintro e w6 ⟨rfl, hb⟩)
  have D6 := Lib.hid (btr D5.out hb)
  clear hb
  go_wp2_with fail
  ((with_reducible refine (PTf.out _ D6.out).mono ?_); rintro e w7 ⟨v1, rfl, hr, hb⟩)
  have D7 := Lib.hid (btr D6.out hb)
  have R1 := Lib.hid hr; clear hr
  clear hb
  go_wp2_with fail
  ((with_reducible refine (PTg.out _ D7.out).mono ?_); rintro e w8 ⟨u1, rfl, hs, hb⟩)
  have D8 := Lib.hid (btr D7.out hb)
  have S1 := Lib.hid hs; have R1' := Lib.hid (PTk.out _ _ _ R1.out hb); clear hs
  clear hb
  go_wp2_with fail
  ((with_reducible refine (PTs.out _ _ _ R1'.out S1.out).mono ?_); rintro e w9 ⟨rfl, hb⟩)
  have D9 := Lib.hid (btr D8.out hb)
  clear hb
  go_wp2_with fail
  ((with_reducible refine (POf.out _ D9.out).mono ?_); rintro e w10 ⟨v2, rfl, hr, hb⟩)
  have D10 := Lib.hid (btr D9.out hb)
  have R2 := Lib.hid hr; clear hr
  clear hb
  go_wp2_with fail
  ((with_reducible refine (POg.out _ D10.out).mono ?_); rintro e w11 ⟨u2, rfl, hs, hb⟩)
  have D11 := Lib.hid (btr D10.out hb)
  have S2 := Lib.hid hs; have R2' := Lib.hid (POk.out _ _ _ R2.out hb); clear hs
  clear hb
  go_wp2_with fail
  ((with_reducible refine (POs.out _ _ _ R2'.out S2.out).mono ?_); rintro e w12 ⟨rfl, hb⟩)
  have D12 := Lib.hid (btr D11.out hb)
  clear hb
  go_wp2_with fail
  ((with_reducible refine (PAf.out _ D12.out).mono ?_); rintro e w13 ⟨v3, rfl, hr, hb⟩)
  have D13 := Lib.hid (btr D12.out hb)
  have R3 := Lib.hid hr; clear hr
  clear hb
  go_wp2_with fail
  ((with_reducible refine (PAg.out _ D13.out).mono ?_); rintro e w14 ⟨u3, rfl, hs, hb⟩)
  have D14 := Lib.hid (btr D13.out hb)
  have S3 := Lib.hid hs; have R3' := Lib.hid (PAk.out _ _ _ R3.out hb); clear hs
  clear hb
  go_wp2_with fail
  ((with_reducible refine (PAs.out _ _ _ R3'.out S3.out).mono ?_); rintro e w15 ⟨rfl, hb⟩)
  have D15 := Lib.hid (btr D14.out hb)
  clear hb
  go_wp2_with fail
  ((with_reducible refine (K2.out _ D15.out).mono ?_); rintro e w16 ⟨rfl, hb⟩)
  have D16 := Lib.hid (btr D15.out hb)
  clear hb
  go_wp2_with fail
  ((with_reducible refine (K3.out _ D16.out).mono ?_); rintro e w17 ⟨rfl, hb⟩)
  have D17 := Lib.hid (btr D16.out hb)
  clear hb
  go_wp2_with fail
  ((with_reducible refine (told9_true _ (tb_on HT.out D17.out)).mono ?_); rintro e w18 ⟨rfl, hb⟩)
  have D18 := Lib.hid (btr D17.out hb)
  clear hb
  go_wp2_with fail
  ((with_reducible refine (K4.out _ D18.out).mono ?_); rintro e w19 ⟨rfl, hb⟩)
  have D19 := Lib.hid (btr D18.out hb)
  clear hb
  go_wp2_with fail
  ((with_reducible refine (all_one _).mono ?_); rintro e w20 ⟨g8, rfl, hI, hb⟩)
  have D20 := Lib.hid (btr D19.out hb)
  have I8 := Lib.hid hI; clear hI
  clear hb
  have ZS : Hid (∀ W, Below (w20.alloc (.cells #[.bool false, .bool false, .bool false, .int .u64 0, .int .u64 0, .int .u64 0, .int .u64 0, .bool false, .int .u64 0, .int .u64 0, .int .u64 0, .int .u64 0] 35)).heap.size (w20.alloc (.cells #[.bool false, .bool false, .bool false, .int .u64 0, .int .u64 0, .int .u64 0, .int .u64 0, .bool false, .int .u64 0, .int .u64 0, .int .u64 0, .int .u64 0] 35)) W → Calls Tryd.prog 8 #[.slice (some ⟨g8, 0, none⟩) 1 1, .slice (some ⟨w20.heap.size, 0, none⟩) 1 1] W fun e w' => e = .returned (.bool true) ∧ Below W.heap.size W w') := Lib.hid (fun W hW => by
    obtain ⟨l9, c9, b9, o9, h9, hL9, _⟩ := I8.out
    obtain ⟨rfl, rfl⟩ : some ⟨g8, 0, none⟩ = l9 ∧ 1 = c9 := by injection h9; exact ⟨by assumption, by assumption⟩
    have := rsame _ _ 1 1 _ _ _ _ _ _ W ((hL9.keep (bal (Below.refl _ _) _)).keep hW) ((zero_ls w20 _ rfl).keep hW)
    exact this)
  go_wp2_with fail
  ((with_reducible refine (ZS.out _ (Below.refl _ _)).mono ?_); rintro e wz ⟨rfl, hb⟩)
  go_wp2
  go_ret
  exact ⟨rfl, btr (bal D20.out _) hb⟩
set_option maxRecDepth 400000 in
set_option maxHeartbeats 8000000 in
theorem sets_f (la : Option Addr) (n lca : Nat) (la2 : Option Addr) (m lcb : Nat) (w : World) (hT : Tb w) (h1 : n ≤ 12) (h2 : m ≤ 12) (mb : Bool)
    (pN : Pair w 9 10 #[.slice la n lca]) (pT : Pair w 11 12 #[.slice la n lca]) (pO : Pair w 13 14 #[.slice la n lca, .slice la2 m lcb]) (pA : Pair w 15 16 #[.slice la n lca, .slice la2 m lcb])
    (k1 : (∀ W, Below w.heap.size w W → Calls Tryd.prog 6 #[.slice la n lca] W fun e w' => e = .returned (.bool false) ∧ Below W.heap.size W w')) (k2 : (∀ W, Below w.heap.size w W → Calls Tryd.prog 7 #[.slice la n lca] W fun e w' => e = .returned (.bool false) ∧ Below W.heap.size W w')) (k3 : (∀ W, Below w.heap.size w W → Calls Tryd.prog 7 #[.slice la2 m lcb] W fun e w' => e = .returned (.bool mb) ∧ Below W.heap.size W w')) (k4 : (∀ W, Below w.heap.size w W → Calls Tryd.prog 17 #[.slice la n lca, .slice la2 m lcb] W fun e w' => e = .returned (.bool false) ∧ Below W.heap.size W w')) :
    Calls Tryd.prog 3 #[.slice la n lca, .slice la2 m lcb] w fun e w' => e = .returned (.bool true) ∧ Below w.heap.size w w' := by
  obtain ⟨R0, S0, pn1, pn2, pn3, pn4, pn5⟩ := pN
  obtain ⟨Rt, St, pt1, pt2, pt3, pt4, pt5⟩ := pT
  obtain ⟨Ro, So, po1, po2, po3, po4, po5⟩ := pO
  obtain ⟨Ra, Sa, pa1, pa2, pa3, pa4, pa5⟩ := pA
  have PNk := Lib.hid pn1; have PNf := Lib.hid pn3; have PNg := Lib.hid pn4; have PNs := Lib.hid pn5
  have PTk := Lib.hid pt1; have PTf := Lib.hid pt3; have PTg := Lib.hid pt4; have PTs := Lib.hid pt5
  have POk := Lib.hid po1; have POf := Lib.hid po3; have POg := Lib.hid po4; have POs := Lib.hid po5
  have PAk := Lib.hid pa1; have PAf := Lib.hid pa3; have PAg := Lib.hid pa4; have PAs := Lib.hid pa5
  have hfew := few_any la n lca la2 m lcb w
  rw [decide_eq_true h1, decide_eq_true h2] at hfew
  have HFW := Lib.hid hfew; have HT := Lib.hid hT; have K1 := Lib.hid k1; have K2 := Lib.hid k2; have K3 := Lib.hid k3; have K4 := Lib.hid k4
  clear hfew hT h1 h2 k1 k2 k3 k4 pn1 pn2 pn3 pn4 pn5 pt1 pt2 pt3 pt4 pt5 po1 po2 po3 po4 po5 pa1 pa2 pa3 pa4 pa5
  go_enter Tryd.func3, Tryd.ntmps3
  go_wp2_with fail
  ((with_reducible refine HFW.out.mono ?_); rintro e w1 ⟨rfl, rfl⟩)
  go_wp2_with fail
  ((with_reducible refine (K1.out _ (Below.refl _ _)).mono ?_); rintro e w2 ⟨rfl, hb⟩)
  have D2 := Lib.hid (btr (Below.refl _ _) hb)
  clear hb
  go_wp2_with fail
  ((with_reducible refine (K2.out _ D2.out).mono ?_); rintro e w3 ⟨rfl, hb⟩)
  have D3 := Lib.hid (btr D2.out hb)
  clear hb
  go_wp2_with fail
  ((with_reducible refine (PNf.out _ D3.out).mono ?_); rintro e w4 ⟨v0, rfl, hr, hb⟩)
  have D4 := Lib.hid (btr D3.out hb)
  have R0 := Lib.hid hr; clear hr
  clear hb
  go_wp2_with fail
  ((with_reducible refine (PNg.out _ D4.out).mono ?_); rintro e w5 ⟨u0, rfl, hs, hb⟩)
  have D5 := Lib.hid (btr D4.out hb)
  have S0 := Lib.hid hs; have R0' := Lib.hid (PNk.out _ _ _ R0.out hb); clear hs
  clear hb
  go_wp2_with fail
  ((with_reducible refine (PNs.out _ _ _ R0'.out S0.out).mono ?_); rintro e w6 ⟨rfl, hb⟩)
  have D6 := Lib.hid (btr D5.out hb)
  clear hb
  go_wp2_with fail
  ((with_reducible refine (PTf.out _ D6.out).mono ?_); rintro e w7 ⟨v1, rfl, hr, hb⟩)
  have D7 := Lib.hid (btr D6.out hb)
  have R1 := Lib.hid hr; clear hr
  clear hb
  go_wp2_with fail
  ((with_reducible refine (PTg.out _ D7.out).mono ?_); rintro e w8 ⟨u1, rfl, hs, hb⟩)
  have D8 := Lib.hid (btr D7.out hb)
  have S1 := Lib.hid hs; have R1' := Lib.hid (PTk.out _ _ _ R1.out hb); clear hs
  clear hb
  go_wp2_with fail
  ((with_reducible refine (PTs.out _ _ _ R1'.out S1.out).mono ?_); rintro e w9 ⟨rfl, hb⟩)
  have D9 := Lib.hid (btr D8.out hb)
  clear hb
  go_wp2_with fail
  ((with_reducible refine (POf.out _ D9.out).mono ?_); rintro e w10 ⟨v2, rfl, hr, hb⟩)
  have D10 := Lib.hid (btr D9.out hb)
  have R2 := Lib.hid hr; clear hr
  clear hb
  go_wp2_with fail
  ((with_reducible refine (POg.out _ D10.out).mono ?_); rintro e w11 ⟨u2, rfl, hs, hb⟩)
  have D11 := Lib.hid (btr D10.out hb)
  have S2 := Lib.hid hs; have R2' := Lib.hid (POk.out _ _ _ R2.out hb); clear hs
  clear hb
  go_wp2_with fail
  ((with_reducible refine (POs.out _ _ _ R2'.out S2.out).mono ?_); rintro e w12 ⟨rfl, hb⟩)
  have D12 := Lib.hid (btr D11.out hb)
  clear hb
  go_wp2_with fail
  ((with_reducible refine (PAf.out _ D12.out).mono ?_); rintro e w13 ⟨v3, rfl, hr, hb⟩)
  have D13 := Lib.hid (btr D12.out hb)
  have R3 := Lib.hid hr; clear hr
  clear hb
  go_wp2_with fail
  ((with_reducible refine (PAg.out _ D13.out).mono ?_); rintro e w14 ⟨u3, rfl, hs, hb⟩)
  have D14 := Lib.hid (btr D13.out hb)
  have S3 := Lib.hid hs; have R3' := Lib.hid (PAk.out _ _ _ R3.out hb); clear hs
  clear hb
  go_wp2_with fail
  ((with_reducible refine (PAs.out _ _ _ R3'.out S3.out).mono ?_); rintro e w15 ⟨rfl, hb⟩)
  have D15 := Lib.hid (btr D14.out hb)
  clear hb
  go_wp2_with fail
  ((with_reducible refine (K2.out _ D15.out).mono ?_); rintro e w16 ⟨rfl, hb⟩)
  have D16 := Lib.hid (btr D15.out hb)
  clear hb
  go_wp2_with fail
  ((with_reducible refine (told9_true _ (tb_on HT.out D16.out)).mono ?_); rintro e w17 ⟨rfl, hb⟩)
  have D17 := Lib.hid (btr D16.out hb)
  clear hb
  go_wp2_with fail
  ((with_reducible refine (K4.out _ D17.out).mono ?_); rintro e w18 ⟨rfl, hb⟩)
  have D18 := Lib.hid (btr D17.out hb)
  clear hb
  go_wp2_with fail
  ((with_reducible refine (all_one _).mono ?_); rintro e w19 ⟨g8, rfl, hI, hb⟩)
  have D19 := Lib.hid (btr D18.out hb)
  have I8 := Lib.hid hI; clear hI
  clear hb
  have ZS : Hid (∀ W, Below (w19.alloc (.cells #[.bool false, .bool false, .bool false, .int .u64 0, .int .u64 0, .int .u64 0, .int .u64 0, .bool false, .int .u64 0, .int .u64 0, .int .u64 0, .int .u64 0] 35)).heap.size (w19.alloc (.cells #[.bool false, .bool false, .bool false, .int .u64 0, .int .u64 0, .int .u64 0, .int .u64 0, .bool false, .int .u64 0, .int .u64 0, .int .u64 0, .int .u64 0] 35)) W → Calls Tryd.prog 8 #[.slice (some ⟨g8, 0, none⟩) 1 1, .slice (some ⟨w19.heap.size, 0, none⟩) 1 1] W fun e w' => e = .returned (.bool true) ∧ Below W.heap.size W w') := Lib.hid (fun W hW => by
    obtain ⟨l9, c9, b9, o9, h9, hL9, _⟩ := I8.out
    obtain ⟨rfl, rfl⟩ : some ⟨g8, 0, none⟩ = l9 ∧ 1 = c9 := by injection h9; exact ⟨by assumption, by assumption⟩
    have := rsame _ _ 1 1 _ _ _ _ _ _ W ((hL9.keep (bal (Below.refl _ _) _)).keep hW) ((zero_ls w19 _ rfl).keep hW)
    exact this)
  go_wp2_with fail
  ((with_reducible refine (ZS.out _ (Below.refl _ _)).mono ?_); rintro e wz ⟨rfl, hb⟩)
  go_wp2
  go_ret
  exact ⟨rfl, btr (bal D19.out _) hb⟩
theorem sets_l (la : Option Addr) (n lca : Nat) (la2 : Option Addr) (m lcb : Nat) (w : World) (hT : Tb w) (h : ¬ (n ≤ 12 ∧ m ≤ 12)) :
    Calls Tryd.prog 3 #[.slice la n lca, .slice la2 m lcb] w fun e w' => e = .returned (.bool true) ∧ Below w.heap.size w w' := by
  have hfew := few_any la n lca la2 m lcb w
  have hq : (decide (n ≤ 12) && decide (m ≤ 12)) = false := by rw [← Bool.not_eq_true]; intro hc; apply h; simpa using hc
  rw [hq] at hfew
  have HFW := Lib.hid hfew; have HT := Lib.hid hT
  clear hfew hT h hq
  go_enter Tryd.func3, Tryd.ntmps3
  go_wp2_with fail
  ((with_reducible refine HFW.out.mono ?_); rintro e w1 ⟨rfl, rfl⟩)
  go_wp2_with fail
  ((with_reducible refine (told9_true _ HT.out).mono ?_); rintro e w9 ⟨rfl, hb⟩)
  go_wp2
  go_ret
  exact ⟨rfl, hb⟩
/-- entrepotlaw9.SpanSets, out of Norm's contract. -/
theorem sets_any (hN : NormC) (la : Option Addr) (lca : Nat) (l : List RS) (bb off : Nat) (la2 : Option Addr) (lcb : Nat) (m : List RS) (b2 off2 : Nat) (w : World) (hT : Tb w) (hK : Ls w la l bb off) (hxl : ∀ r ∈ l, r.xl < 2 ^ 256 ∧ r.xh < 2 ^ 256) (c1 : l.length ≤ lca ∧ lca ≤ maxLen)
    (hM : Ls w la2 m b2 off2) (hxm : ∀ r ∈ m, r.xl < 2 ^ 256 ∧ r.xh < 2 ^ 256) (c2 : m.length ≤ lcb ∧ lcb ≤ maxLen) :
    Calls Tryd.prog 3 #[.slice la l.length lca, .slice la2 m.length lcb] w fun e w' => e = .returned (.bool true) ∧ Below w.heap.size w w' := by
  by_cases h12 : l.length ≤ 12 ∧ m.length ≤ 12
  · obtain ⟨h1, h2⟩ := h12
    have s1 := fun W hW => smay la lca l bb off W (hK.keep hW) hxl
    have s2 := fun W hW => smay la2 lcb m b2 off2 W (hM.keep hW) hxm
    have f1 := fun W hW => rlmay la lca l bb off W (hK.keep hW) hxl
    have f2 := fun W hW => rlmay la2 lcb m b2 off2 W (hM.keep hW) hxm
    cases e1 : mayL l with
    | false =>
      rw [e1] at s1 f1
      exact sets_f la l.length lca la2 m.length lcb w hT h1 h2 (mayL m) (pair_no (fun W hW => norm_no _ W (fun V hV => s1 V (btr hW hV))) (fun W hW => rnorm_no _ W (fun V hV => f1 V (btr hW hV))))
        (pair_no (fun W hW => not_no _ W (fun V hV => s1 V (btr hW hV))) (fun W hW => rnot_no _ W (fun V hV => f1 V (btr hW hV))))
        (pair_no (fun W hW => or_no _ _ W false _ rfl (fun V hV => s1 V (btr hW hV)) (fun V hV => s2 V (btr hW hV))) (fun W hW => ror_no _ _ W false _ rfl (fun V hV => f1 V (btr hW hV)) (fun V hV => f2 V (btr hW hV))))
        (pair_no (fun W hW => and_no _ _ W false _ rfl (fun V hV => s1 V (btr hW hV)) (fun V hV => s2 V (btr hW hV))) (fun W hW => rand_no _ _ W false _ rfl (fun V hV => f1 V (btr hW hV)) (fun V hV => f2 V (btr hW hV))))
        s1 f1 f2 (fun W hW => same_no _ _ W false _ rfl (fun V hV => s1 V (btr hW hV)) (fun V hV => s2 V (btr hW hV)))
    | true =>
      rw [e1] at s1 f1
      obtain ⟨A, rfl, hA⟩ := in9_of hK c1.1 c1.2 hxl e1
      have pN : Pair w 9 10 #[.slice la (A.map rsp).length lca] := pair_yes (fun W hW => norm_in (hA.keep hW)) (fun W hW => by rw [List.length_map] at hA h1 ⊢; exact hN la lca A W (hA.keep hW) (by omega))
      have a12 : A.length ≤ 12 := by rw [List.length_map] at h1; exact h1
      have pT : Pair w 11 12 #[.slice la (A.map rsp).length lca] := pair_yes (fun W hW => not_in (hA.keep hW)) (fun W hW => rnot_in hN (hA.keep hW) a12)
      cases e2 : mayL m with
      | false =>
        rw [e2] at s2 f2
        exact sets_tf la _ lca la2 m.length lcb w hT h1 h2 pN pT
          (pair_no (fun W hW => or_no _ _ W true false rfl (fun V hV => s1 V (btr hW hV)) (fun V hV => s2 V (btr hW hV))) (fun W hW => ror_no _ _ W true false rfl (fun V hV => f1 V (btr hW hV)) (fun V hV => f2 V (btr hW hV))))
          (pair_no (fun W hW => and_no _ _ W true false rfl (fun V hV => s1 V (btr hW hV)) (fun V hV => s2 V (btr hW hV))) (fun W hW => rand_no _ _ W true false rfl (fun V hV => f1 V (btr hW hV)) (fun V hV => f2 V (btr hW hV))))
          s1 f1 f2 (fun W hW => same_no _ _ W true false rfl (fun V hV => s1 V (btr hW hV)) (fun V hV => s2 V (btr hW hV)))
      | true =>
        rw [e2] at s2 f2
        obtain ⟨B, rfl, hB⟩ := in9_of hM c2.1 c2.2 hxm e2
        have b12 : B.length ≤ 12 := by rw [List.length_map] at h2; exact h2
        obtain ⟨q, hq⟩ : ∃ q, SameQ A B q := by
          by_cases h : ∀ x, -topM ≤ x → x ≤ topM → memS A x = memS B x
          · exact ⟨true, fun _ => h, fun _ => rfl⟩
          · exact ⟨false, (fun h0 => by cases h0), fun h0 => absurd h0 h⟩
        refine sets_tt la _ lca la2 _ lcb w hT h1 h2 q pN pT (pair_yes (fun W hW => or_in (hA.keep hW) (hB.keep hW)) (fun W hW => ror_in hN (hA.keep hW) (hB.keep hW) a12 b12)) (pair_yes (fun W hW => and_in (hA.keep hW) (hB.keep hW)) (fun W hW => rand_in hN (hA.keep hW) (hB.keep hW) a12 b12)) s1 f1 f2 (fun W hW => (same_in (hA.keep hW) (hB.keep hW)).mono ?_) ?_
        · rintro e w' ⟨q', rfl, h', hb⟩
          refine ⟨ret_bool9 ?_, hb⟩
          unfold SameQ at hq h'
          rw [Bool.eq_iff_iff, h', hq]
        · rw [List.length_map, List.length_map] at *
          exact ⟨fun W v => NS W v (fun x => memS A x) A.length, fun W v => NS W v (fun x => memS B x) B.length, fun _ _ _ h hb => h.keep hb, fun W hW => (hN la lca A W (hA.keep hW) (by omega)).mono fun _ _ h => h.ns (fun _ _ _ => rfl) (Nat.le_refl _), fun W hW => (hN la2 lcb B W (hB.keep hW) (by omega)).mono fun _ _ h => h.ns (fun _ _ _ => rfl) (Nat.le_refl _), fun W v u hv hu => rsame_two hq hv hu⟩
  · exact sets_l la l.length lca la2 m.length lcb w hT h12
end Go.Proofs.YtjlgiejggcbgbaaDoor
end
section
namespace Go.Proofs.YtjlgiejggcbgbaaDoor
open Go.RowKit Go.Shelf

theorem normC : NormC := fun la lca A w hA h => norm_one la lca A w hA h
end Go.Proofs.YtjlgiejggcbgbaaDoor
end
