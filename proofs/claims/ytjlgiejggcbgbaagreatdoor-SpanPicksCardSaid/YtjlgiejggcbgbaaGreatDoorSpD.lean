/-
  span.appendEdges: the contract.
-/
import Derived.Test.YtjlgiejggcbgbaaGreatDoorSpC
import Derived.Deep.Cut
import Derived.Deep.DeepCutAuto
namespace Go.Proofs.YtjlgiejggcbgbaaGreatDoor
open Go.RowKit Go.Shelf
open Go.Sort (grow)
attribute [local go_sem ↓] eql_nat neq_nat eql_int5 neq_int5

/-- An edge, as a value of its own. -/
def mkE (z : Int) (h : z.natAbs < 2 ^ 256) (k m : Int) : Ev := (⟨z, h⟩, k, m)
def edE (e : Ev) : Ed := (e.1.val, e.2.1, e.2.2)
/-- The edges of a span, as values. -/
def evs (k : Int) (s : Sp) : List Ev :=
  if loE s ≤ hiE s then (if h : (loE s).natAbs < 2 ^ 256 then [mkE (loE s) h k 1] else []) ++ (if hiE s < topM then (if h : (hiE s + 1).natAbs < 2 ^ 256 then [mkE (hiE s + 1) h k (-1)] else []) else []) else []
theorem evs_eds {k : Int} {s : Sp} (h : SpR s) : (evs k s).map edE = edgesOf k s := by
  have h1 := h.lo; have h2 := h.hi
  have a1 : (loE s).natAbs < 2 ^ 256 := inR_abs.1 h1
  unfold evs edgesOf
  by_cases h3 : loE s ≤ hiE s
  · rw [if_pos h3, if_pos h3, dif_pos a1]
    by_cases h4 : hiE s < topM
    · have a2 : (hiE s + 1).natAbs < 2 ^ 256 := inR_abs.1 (by unfold inR; omega)
      rw [if_pos h4, if_pos h4, dif_pos a2]
      rfl
    · rw [if_neg h4, if_neg h4]
      rfl
  · rw [if_neg h3, if_neg h3]
    rfl
theorem evs_none {k : Int} {s : Sp} (h : hiE s < loE s) : evs k s = [] := by unfold evs; rw [if_neg (by omega)]
theorem evs_one {k : Int} {s : Sp} (h : SpR s) (h1 : ¬ hiE s < loE s) (h2 : ¬ hiE s < topM) : ∃ e, evs k s = [e] ∧ encE e = [.bool (decide (loE s < 0)), .int .u64 (lb 0 (loE s).natAbs), .int .u64 (lb 1 (loE s).natAbs), .int .u64 (lb 2 (loE s).natAbs), .int .u64 (lb 3 (loE s).natAbs), .int .i64 k, .int .i64 1] := by
  have a1 : (loE s).natAbs < 2 ^ 256 := inR_abs.1 h.lo
  exact ⟨mkE (loE s) a1 k 1, by unfold evs; rw [if_pos (by omega), dif_pos a1, if_neg h2]; rfl, rfl⟩
theorem evs_two {k : Int} {s : Sp} (h : SpR s) (h1 : ¬ hiE s < loE s) (h2 : hiE s < topM) : ∃ e f, evs k s = [e, f] ∧ encE e = [.bool (decide (loE s < 0)), .int .u64 (lb 0 (loE s).natAbs), .int .u64 (lb 1 (loE s).natAbs), .int .u64 (lb 2 (loE s).natAbs), .int .u64 (lb 3 (loE s).natAbs), .int .i64 k, .int .i64 1] ∧
    encE f = [.bool (decide (hiE s + 1 < 0)), .int .u64 (lb 0 (hiE s + 1).natAbs), .int .u64 (lb 1 (hiE s + 1).natAbs), .int .u64 (lb 2 (hiE s + 1).natAbs), .int .u64 (lb 3 (hiE s + 1).natAbs), .int .i64 k, .int .i64 (-1)] := by
  have a1 : (loE s).natAbs < 2 ^ 256 := inR_abs.1 h.lo
  have a2 : (hiE s + 1).natAbs < 2 ^ 256 := inR_abs.1 (by have := h.hi; unfold inR; omega)
  exact ⟨mkE (loE s) a1 k 1, mkE (hiE s + 1) a2 k (-1), by unfold evs; rw [if_pos (by omega), dif_pos a1, if_pos h2, dif_pos a2]; rfl, rfl, rfl⟩
theorem evs_len (k : Int) (s : Sp) : (evs k s).length ≤ 2 := by
  unfold evs
  split <;> (try split) <;> (try split) <;> (try split) <;> simp
theorem evs_flat_len (k : Int) (A : List Sp) : (A.flatMap (evs k)).length ≤ 2 * A.length := by
  induction A with
  | nil => exact Nat.le_refl _
  | cons s A ih => rw [List.flatMap_cons, List.length_append, List.length_cons]; have := evs_len k s; omega
theorem evs_take {k : Int} {A : List Sp} {i : Nat} {s : Sp} (h : A[i]? = some s) : (A.take (i + 1)).flatMap (evs k) = (A.take i).flatMap (evs k) ++ evs k s := by
  obtain ⟨hi, rfl⟩ := List.getElem?_eq_some_iff.1 h
  rw [List.take_succ_eq_append_getElem hi, List.flatMap_append]
  simp
theorem info_edge : (Tryz.prog.info? 76).map (fun i => (i.zero, i.size, i.bytes)) = some (some (.agg #[.bool false, .int .u64 0, .int .u64 0, .int .u64 0, .int .u64 0, .int .i64 0, .int .i64 0]), 7, 56) := by kernel_rfl
theorem und_edges : Tryz.prog.underlying 77 = some (.slice 76) := by kernel_rfl
theorem least_enc {e : Ev} {k : Int} (h : encE e = [.bool (decide (-topM < 0)), .int .u64 (lb 0 (-topM).natAbs), .int .u64 (lb 1 (-topM).natAbs), .int .u64 (lb 2 (-topM).natAbs), .int .u64 (lb 3 (-topM).natAbs), .int .i64 k, .int .i64 1]) :
    encE e = (#[.bool true, .int .u64 18446744073709551615, .int .u64 18446744073709551615, .int .u64 18446744073709551615, .int .u64 18446744073709551615, .int .i64 k, .int .i64 1] : Array Value).toList := by
  obtain ⟨t0, t1, t2, t3⟩ := topM_lb
  rw [h, Int.natAbs_neg, t0, t1, t2, t3, decide_eq_true (by have := topM_pos; omega)]
theorem Be.snoc {W : World} {base : Nat} {v : Value} {l : List Ev} {e : Ev} {news : List Value} (h : W.ownsRow base 76 7 v (l.length + 1) (csE l ++ news)) (hn : encE e = news) : Be W base v (l ++ [e]) := by
  subst hn
  unfold Be
  rw [csE_app, List.length_append, show csE [e] = encE e by simp [csE]]
  exact h
theorem C12.keepB {w w' : World} {base b p : Nat} {r : RS} (hb : Below base w w') (hlt : b < base) (h : C12 w b p r) : C12 w' b p r := fun j u hu => by
  rw [← h j u hu]
  exact hb.cell (p := ⟨b, p + j, none⟩) hlt
theorem Onw.set {w0 w1 : World} {v v1 : Value} (h : Onw w0 w1 v v1) {b i : Nat} (hb : w0.heap.size ≤ b) (u : Value) : Onw w0 (w1.setCell ⟨b, i, none⟩ u) v v1 :=
  ⟨⟨h.grown.os, h.grown.tape, h.grown.output, by simpa using h.grown.size, fun k hk hne => (Below.heap_setCell w1 ⟨b, i, none⟩ u k (by show k ≠ b; omega)).trans (h.grown.block k hk hne)⟩, h.lies⟩

set_option maxRecDepth 100000 in
set_option maxHeartbeats 8000000 in
theorem appedges (kk : Int) (la : Option Addr) (lc : Nat) (A : List Sp) (bb off : Nat) (es : Value) (E : List Ev) (base : Nat) (w : World) (hE : Be w base es E) (hB : base ≤ w.heap.size) (hL : Ls w la (A.map rsp) bb off) (hbb : 0 < A.length → bb < base) (hA : ∀ s ∈ A, SpR s) (hn : A.length ≤ 1000) (hEn : E.length ≤ 4000) :
    Calls Tryz.prog 59 #[es, .int .i64 kk, .slice la A.length lc] w fun e w' => ∃ v, e = .returned v ∧ Be w' base v (E ++ A.flatMap (evs kk)) ∧ Onw w w' es v := by
  obtain ⟨i0, hi0, hz0, hz1, hz2⟩ := info9 info_edge
  have HOB := Lib.hid (fun g hg => (own_base9 hE g hg).1)
  have HE0 := Lib.hid hE; have HL := Lib.hid hL; have HA := Lib.hid hA; have HBB := Lib.hid hbb
  clear hE hL hA hbb
  go_enter Tryz.func59, Tryz.ntmps59
  go_wp2
  go_loopw [0, 14] (fun es' i wr => ∃ k : Nat, k ≤ A.length ∧ i = .int .i64 k ∧ Hid (Be wr base es' (E ++ (A.take k).flatMap (evs kk))) ∧ Hid (Onw w wr es es')) (fun _ i _ => A.length - (intOf i).toNat)
  case atStart => exact ⟨0, Nat.zero_le _, rfl, Lib.hid (by simpa using HE0.out), Lib.hid (Onw.refl _ _)⟩
  case round =>
    obtain ⟨k, hk, rfl, BE, ON⟩ := hrel
    by_cases hlt : k < A.length
    · obtain ⟨s, hs, hm⟩ : ∃ s, A[k]? = some s ∧ s ∈ A := ⟨A[k], List.getElem?_eq_getElem hlt, List.getElem_mem hlt⟩
      have hSR := HA.out s hm
      have FB := ON.out.frame hB HOB.out
      have hr := C12.keepB FB (HBB.out (by omega)) (HL.out.cells k (rsp s) (by rw [List.getElem?_map, hs]; rfl))
      obtain rfl : la = some ⟨bb, off, none⟩ := HL.out.la (by rw [List.length_map]; omega)
      have hE := isempty_any s hSR
      have HTK := Lib.hid (evs_take (k := kk) hs)
      have hLn : (E ++ (A.take k).flatMap (evs kk)).length ≤ 6000 := by
        have := evs_flat_len kk (A.take k)
        rw [List.length_append]
        rw [List.length_take] at this
        omega
      generalize hLL : E ++ (A.take k).flatMap (evs kk) = L at *
      have HLL := Lib.hid hLL
      have hbsz := ON.out.size
      have HOBR := Lib.hid (fun g hg => (own_base9 BE.out g hg).2)
      clear FB hs hm hLL
      obtain ⟨o1, o2⟩ := s
      cases o1 with
      | some a =>
        cases o2 with
        | none =>
          have heL : loE ((some a, none) : Sp) = a := rfl
          have heH : hiE ((some a, none) : Sp) = topM := rfl
          have hne : ¬ hiE ((some a, none) : Sp) < loE ((some a, none) : Sp) := by have := hSR.lo; rw [heH]; omega
          obtain ⟨e1, hv, hf1⟩ := evs_one (k := kk) hSR hne (by rw [heH]; omega)
          rw [heL] at hf1
          have HEV := Lib.hid hv; have HF1 := Lib.hid hf1; clear hv hf1
          have HN : Hid (∀ W, Calls Tryz.prog 74 #[.agg #[.bool false, .int .u64 (lb 0 0), .int .u64 (lb 1 0), .int .u64 (lb 2 0), .int .u64 (lb 3 0)]] W fun e w' => e = .returned (.tuple #[.agg #[.bool false, .int .u64 (lb 0 1), .int .u64 (lb 1 1), .int .u64 (lb 2 1), .int .u64 (lb 3 1)], .bool true]) ∧ Below W.heap.size W w') := Lib.hid (fun W => next_z 0 (by decide) W)
          have hr' : C12 wr bb (off + k * 12) ⟨true, false, (decide (a < 0)), a.natAbs, false, 0⟩ := hr
          obtain ⟨c0, c1, c2, c3, c4, c5, c6, c7, c8, c9, c10, c11⟩ := hr'.twelve
          have HE1 : Hid (∀ W, Calls Tryz.prog 78 #[V12 true false (decide (a < 0)) (lb 0 a.natAbs) (lb 1 a.natAbs) (lb 2 a.natAbs) (lb 3 a.natAbs) false (lb 0 0) (lb 1 0) (lb 2 0) (lb 3 0)] W fun e w' => e = .returned (.bool false) ∧ Below W.heap.size W w') := Lib.hid (fun W => by have := hE W; rw [decide_eq_false hne] at this; exact this)
          clear hr hr' hE
          go_wp2_with fail
          ((with_reducible refine (HE1.out _).mono ?_); rintro e w1 ⟨rfl, hb⟩)
          have X1 := Row12.keep hb (Row12.new wr (.bool true) (.bool false) (.bool (decide (a < 0))) (.int .u64 (lb 0 a.natAbs)) (.int .u64 (lb 1 a.natAbs)) (.int .u64 (lb 2 a.natAbs)) (.int .u64 (lb 3 a.natAbs)) (.bool false) (.int .u64 (lb 0 0)) (.int .u64 (lb 1 0)) (.int .u64 (lb 2 0)) (.int .u64 (lb 3 0)))
          have hb1 := btr (bal (Below.refl wr.heap.size wr) _) hb
          have BE1 := Lib.hid (BE.out.keep hb1); have ON1 := Lib.hid (ON.out.below hb1)
          have hsz1 := X1.lt
          clear hb hb1 c0 c1 c2 c3 c4 c5 c6 c7 c8 c9 c10 c11
          obtain ⟨p0, p1, p2, p3, p4, p5, p6, p7, p8, p9, p10, p11⟩ := X1.parts
          have z0 := fun o => alloc_cell9 p0 o
          go_wp2_with (first | fail | (at_builtin; refine wpList_append_lies _ rfl (.tmp 26) (.tmp 30) 77 rfl base 76 i0 (.agg #[.bool false, .int .u64 0, .int .u64 0, .int .u64 0, .int .u64 0, .int .i64 0, .int .i64 0]) 7 56 und_edges hi0 hz0 hz1 hz2 rfl (by decide) u0 L.length _ rfl (World.ownsRow.alloc (World.ownsRow.alloc BE1.out _) _) ⟨w1.heap.size + 1, 0, none⟩ 1 1 (#[.bool (decide (a < 0)), .int .u64 (lb 0 a.natAbs), .int .u64 (lb 1 a.natAbs), .int .u64 (lb 2 a.natAbs), .int .u64 (lb 3 a.natAbs), .int .i64 kk, .int .i64 1] : Array Value).toList rfl rfl (news9 _ _ _ _ (by simp)) (by intro u hu; simp only [List.mem_cons, List.not_mem_nil, or_false] at hu; rcases hu with rfl | rfl | rfl | rfl | rfl | rfl | rfl <;> rfl) (by decide) (by unfold maxLen; omega) (by omega) (by simp <;> omega) _ rfl ?_; intro g4 cap4 w4 hown hgrow hat hlt4; have BE4 := Lib.hid (Be.snoc hown HF1.out); have ON4 := Lib.hid ((ON1.out.below (bal (bal (Below.refl _ _) _) _)).app (L.length + 1) cap4 hgrow hat (Nat.le_refl _)); have X4 := Row12.grown (Row12.alloc (Row12.alloc X1 _) _) hgrow (fun hc => by have := HOBR.out _ hc.symm; omega); obtain ⟨r0, r1, r2, r3, r4, r5, r6, r7, r8, r9, r10, r11⟩ := X4.parts; clear hown hgrow hat hlt4))
          ((with_reducible refine (HN.out _).mono ?_); rintro e w5 ⟨rfl, hb⟩)
          have X5 := Row12.keep hb X4; have BE5 := Lib.hid (BE4.out.keep hb); have ON5 := Lib.hid (ON4.out.below hb)
          have hsz5 := ON5.out.size
          have HOB5 := Lib.hid (fun g hg => (own_base9 BE5.out g hg).2)
          clear hb r0 r1 r2 r3 r4 r5 r6 r7 r8 r9 r10 r11 BE4 ON4
          obtain ⟨r0, r1, r2, r3, r4, r5, r6, r7, r8, r9, r10, r11⟩ := X5.parts
          have z1 := fun o => alloc_cell9 r1 o
          go_wp2
          go_roundw
          case rel => exact ⟨k + 1, by omega, by go_num, Lib.hid (by rw [HTK.out, HEV.out, ← List.append_assoc, HLL.out]; exact World.ownsRow.alloc BE5.out _), Lib.hid (ON5.out.below (bal (Below.refl _ _) _))⟩
          case measure => simp [intOf]; omega
        | some b =>
          have heL : loE ((some a, some b) : Sp) = a := rfl
          have heH : hiE ((some a, some b) : Sp) = b := rfl
          by_cases hem : hiE ((some a, some b) : Sp) < loE ((some a, some b) : Sp)
          · have hr' : C12 wr bb (off + k * 12) ⟨true, true, (decide (a < 0)), a.natAbs, (decide (b < 0)), b.natAbs⟩ := hr
            obtain ⟨c0, c1, c2, c3, c4, c5, c6, c7, c8, c9, c10, c11⟩ := hr'.twelve
            have HE1 : Hid (∀ W, Calls Tryz.prog 78 #[V12 true true (decide (a < 0)) (lb 0 a.natAbs) (lb 1 a.natAbs) (lb 2 a.natAbs) (lb 3 a.natAbs) (decide (b < 0)) (lb 0 b.natAbs) (lb 1 b.natAbs) (lb 2 b.natAbs) (lb 3 b.natAbs)] W fun e w' => e = .returned (.bool true) ∧ Below W.heap.size W w') := Lib.hid (fun W => by have := hE W; rw [decide_eq_true hem] at this; exact this)
            have HEV := Lib.hid (evs_none (k := kk) hem)
            clear hr hr' hE
            go_wp2_with fail
            ((with_reducible refine (HE1.out _).mono ?_); rintro e w1 ⟨rfl, hb⟩)
            have hb1 := btr (bal (Below.refl wr.heap.size wr) _) hb
            have BE1 := Lib.hid (BE.out.keep hb1); have ON1 := Lib.hid (ON.out.below hb1)
            clear hb hb1
            go_wp2
            go_roundw
            case rel => exact ⟨k + 1, by omega, by go_num, Lib.hid (by rw [HTK.out, HEV.out, List.append_nil, HLL.out]; exact BE1.out), ON1⟩
            case measure => simp [intOf]; omega
          · have hne := hem
            by_cases hup : b < topM
            · obtain ⟨e1, e2, hv, hf1, hf2⟩ := evs_two (k := kk) hSR hne (by rw [heH]; exact hup)
              rw [heL] at hf1
              rw [heH] at hf2
              have HEV := Lib.hid hv; have HF1 := Lib.hid hf1; have HF2 := Lib.hid hf2; clear hv hf1 hf2
              have HN : Hid (∀ W, Calls Tryz.prog 74 #[.agg #[.bool (decide (b < 0)), .int .u64 (lb 0 b.natAbs), .int .u64 (lb 1 b.natAbs), .int .u64 (lb 2 b.natAbs), .int .u64 (lb 3 b.natAbs)]] W fun e w' => e = .returned (.tuple #[.agg #[.bool (decide (b + 1 < 0)), .int .u64 (lb 0 (b + 1).natAbs), .int .u64 (lb 1 (b + 1).natAbs), .int .u64 (lb 2 (b + 1).natAbs), .int .u64 (lb 3 (b + 1).natAbs)], .bool true]) ∧ Below W.heap.size W w') := Lib.hid (fun W => by have := next_z b (inR_abs.1 (hSR.2 b rfl)) W; unfold Znum at this; rw [if_pos (inR_abs.1 (by have := hSR.2 b rfl; unfold inR at *; omega))] at this; exact this)
              have hr' : C12 wr bb (off + k * 12) ⟨true, true, (decide (a < 0)), a.natAbs, (decide (b < 0)), b.natAbs⟩ := hr
              obtain ⟨c0, c1, c2, c3, c4, c5, c6, c7, c8, c9, c10, c11⟩ := hr'.twelve
              have HE1 : Hid (∀ W, Calls Tryz.prog 78 #[V12 true true (decide (a < 0)) (lb 0 a.natAbs) (lb 1 a.natAbs) (lb 2 a.natAbs) (lb 3 a.natAbs) (decide (b < 0)) (lb 0 b.natAbs) (lb 1 b.natAbs) (lb 2 b.natAbs) (lb 3 b.natAbs)] W fun e w' => e = .returned (.bool false) ∧ Below W.heap.size W w') := Lib.hid (fun W => by have := hE W; rw [decide_eq_false hne] at this; exact this)
              clear hr hr' hE
              go_wp2_with fail
              ((with_reducible refine (HE1.out _).mono ?_); rintro e w1 ⟨rfl, hb⟩)
              have X1 := Row12.keep hb (Row12.new wr (.bool true) (.bool true) (.bool (decide (a < 0))) (.int .u64 (lb 0 a.natAbs)) (.int .u64 (lb 1 a.natAbs)) (.int .u64 (lb 2 a.natAbs)) (.int .u64 (lb 3 a.natAbs)) (.bool (decide (b < 0))) (.int .u64 (lb 0 b.natAbs)) (.int .u64 (lb 1 b.natAbs)) (.int .u64 (lb 2 b.natAbs)) (.int .u64 (lb 3 b.natAbs)))
              have hb1 := btr (bal (Below.refl wr.heap.size wr) _) hb
              have BE1 := Lib.hid (BE.out.keep hb1); have ON1 := Lib.hid (ON.out.below hb1)
              have hsz1 := X1.lt
              clear hb hb1 c0 c1 c2 c3 c4 c5 c6 c7 c8 c9 c10 c11
              obtain ⟨p0, p1, p2, p3, p4, p5, p6, p7, p8, p9, p10, p11⟩ := X1.parts
              have z0 := fun o => alloc_cell9 p0 o
              go_wp2_with (first | fail | (at_builtin; refine wpList_append_lies _ rfl (.tmp 26) (.tmp 30) 77 rfl base 76 i0 (.agg #[.bool false, .int .u64 0, .int .u64 0, .int .u64 0, .int .u64 0, .int .i64 0, .int .i64 0]) 7 56 und_edges hi0 hz0 hz1 hz2 rfl (by decide) u0 L.length _ rfl (World.ownsRow.alloc (World.ownsRow.alloc BE1.out _) _) ⟨w1.heap.size + 1, 0, none⟩ 1 1 (#[.bool (decide (a < 0)), .int .u64 (lb 0 a.natAbs), .int .u64 (lb 1 a.natAbs), .int .u64 (lb 2 a.natAbs), .int .u64 (lb 3 a.natAbs), .int .i64 kk, .int .i64 1] : Array Value).toList rfl rfl (news9 _ _ _ _ (by simp)) (by intro u hu; simp only [List.mem_cons, List.not_mem_nil, or_false] at hu; rcases hu with rfl | rfl | rfl | rfl | rfl | rfl | rfl <;> rfl) (by decide) (by unfold maxLen; omega) (by omega) (by simp <;> omega) _ rfl ?_; intro g4 cap4 w4 hown hgrow hat hlt4; have BE4 := Lib.hid (Be.snoc hown HF1.out); have ON4 := Lib.hid ((ON1.out.below (bal (bal (Below.refl _ _) _) _)).app (L.length + 1) cap4 hgrow hat (Nat.le_refl _)); have X4 := Row12.grown (Row12.alloc (Row12.alloc X1 _) _) hgrow (fun hc => by have := HOBR.out _ hc.symm; omega); obtain ⟨r0, r1, r2, r3, r4, r5, r6, r7, r8, r9, r10, r11⟩ := X4.parts; clear hown hgrow hat hlt4))
              ((with_reducible refine (HN.out _).mono ?_); rintro e w5 ⟨rfl, hb⟩)
              have X5 := Row12.keep hb X4; have BE5 := Lib.hid (BE4.out.keep hb); have ON5 := Lib.hid (ON4.out.below hb)
              have hsz5 := ON5.out.size
              have HOB5 := Lib.hid (fun g hg => (own_base9 BE5.out g hg).2)
              clear hb r0 r1 r2 r3 r4 r5 r6 r7 r8 r9 r10 r11 BE4 ON4
              obtain ⟨r0, r1, r2, r3, r4, r5, r6, r7, r8, r9, r10, r11⟩ := X5.parts
              have z1 := fun o => alloc_cell9 r1 o
              go_wp2_with (first | fail | (at_builtin; refine wpList_append_lies _ rfl (.tmp 43) (.tmp 47) 77 rfl base 76 i0 (.agg #[.bool false, .int .u64 0, .int .u64 0, .int .u64 0, .int .u64 0, .int .i64 0, .int .i64 0]) 7 56 und_edges hi0 hz0 hz1 hz2 rfl (by decide) (.slice (some ⟨g4, 0, none⟩) (L.length + 1) cap4) (L ++ [e1]).length _ rfl (World.ownsRow.alloc (World.ownsRow.alloc BE5.out _) _) ⟨w5.heap.size + 1, 0, none⟩ 1 1 (#[.bool (decide (b + 1 < 0)), .int .u64 (lb 0 (b + 1).natAbs), .int .u64 (lb 1 (b + 1).natAbs), .int .u64 (lb 2 (b + 1).natAbs), .int .u64 (lb 3 (b + 1).natAbs), .int .i64 kk, .int .i64 (-1)] : Array Value).toList rfl rfl (news9 _ _ _ _ (by simp)) (by intro u hu; simp only [List.mem_cons, List.not_mem_nil, or_false] at hu; rcases hu with rfl | rfl | rfl | rfl | rfl | rfl | rfl <;> rfl) (by decide) (by rw [List.length_append]; unfold maxLen; simp only [List.length_singleton]; omega) (by rw [List.length_append]; simp only [List.length_singleton]; omega) (by simp <;> omega) _ rfl ?_; intro g6 cap6 w6 hown hgrow hat hlt6; have BE6 := Lib.hid (Be.snoc hown HF2.out); have ON6 := Lib.hid ((ON5.out.below (bal (bal (Below.refl _ _) _) _)).app ((L ++ [e1]).length + 1) cap6 hgrow hat (Nat.le_refl _)); clear hown hgrow hat hlt6))
              go_roundw
              case rel => exact ⟨k + 1, by omega, by go_num, Lib.hid (by rw [HTK.out, HEV.out, ← List.append_assoc, HLL.out]; simpa using BE6.out), Lib.hid (by simpa using ON6.out)⟩
              case measure => simp [intOf]; omega
            · obtain ⟨e1, hv, hf1⟩ := evs_one (k := kk) hSR hne (by rw [heH]; exact hup)
              rw [heL] at hf1
              have HEV := Lib.hid hv; have HF1 := Lib.hid hf1; clear hv hf1
              have HN : Hid (∀ W, Calls Tryz.prog 74 #[.agg #[.bool (decide (b < 0)), .int .u64 (lb 0 b.natAbs), .int .u64 (lb 1 b.natAbs), .int .u64 (lb 2 b.natAbs), .int .u64 (lb 3 b.natAbs)]] W fun e w' => e = .returned (.tuple #[.agg #[.bool false, .int .u64 0, .int .u64 0, .int .u64 0, .int .u64 0], .bool false]) ∧ Below W.heap.size W w') := Lib.hid (fun W => by have := next_z b (inR_abs.1 (hSR.2 b rfl)) W; unfold Znum at this; rw [if_neg (fun h => hup (by have := inR_abs.2 h; unfold inR at this; omega))] at this; exact this)
              have hr' : C12 wr bb (off + k * 12) ⟨true, true, (decide (a < 0)), a.natAbs, (decide (b < 0)), b.natAbs⟩ := hr
              obtain ⟨c0, c1, c2, c3, c4, c5, c6, c7, c8, c9, c10, c11⟩ := hr'.twelve
              have HE1 : Hid (∀ W, Calls Tryz.prog 78 #[V12 true true (decide (a < 0)) (lb 0 a.natAbs) (lb 1 a.natAbs) (lb 2 a.natAbs) (lb 3 a.natAbs) (decide (b < 0)) (lb 0 b.natAbs) (lb 1 b.natAbs) (lb 2 b.natAbs) (lb 3 b.natAbs)] W fun e w' => e = .returned (.bool false) ∧ Below W.heap.size W w') := Lib.hid (fun W => by have := hE W; rw [decide_eq_false hne] at this; exact this)
              clear hr hr' hE
              go_wp2_with fail
              ((with_reducible refine (HE1.out _).mono ?_); rintro e w1 ⟨rfl, hb⟩)
              have X1 := Row12.keep hb (Row12.new wr (.bool true) (.bool true) (.bool (decide (a < 0))) (.int .u64 (lb 0 a.natAbs)) (.int .u64 (lb 1 a.natAbs)) (.int .u64 (lb 2 a.natAbs)) (.int .u64 (lb 3 a.natAbs)) (.bool (decide (b < 0))) (.int .u64 (lb 0 b.natAbs)) (.int .u64 (lb 1 b.natAbs)) (.int .u64 (lb 2 b.natAbs)) (.int .u64 (lb 3 b.natAbs)))
              have hb1 := btr (bal (Below.refl wr.heap.size wr) _) hb
              have BE1 := Lib.hid (BE.out.keep hb1); have ON1 := Lib.hid (ON.out.below hb1)
              have hsz1 := X1.lt
              clear hb hb1 c0 c1 c2 c3 c4 c5 c6 c7 c8 c9 c10 c11
              obtain ⟨p0, p1, p2, p3, p4, p5, p6, p7, p8, p9, p10, p11⟩ := X1.parts
              have z0 := fun o => alloc_cell9 p0 o
              go_wp2_with (first | fail | (at_builtin; refine wpList_append_lies _ rfl (.tmp 26) (.tmp 30) 77 rfl base 76 i0 (.agg #[.bool false, .int .u64 0, .int .u64 0, .int .u64 0, .int .u64 0, .int .i64 0, .int .i64 0]) 7 56 und_edges hi0 hz0 hz1 hz2 rfl (by decide) u0 L.length _ rfl (World.ownsRow.alloc (World.ownsRow.alloc BE1.out _) _) ⟨w1.heap.size + 1, 0, none⟩ 1 1 (#[.bool (decide (a < 0)), .int .u64 (lb 0 a.natAbs), .int .u64 (lb 1 a.natAbs), .int .u64 (lb 2 a.natAbs), .int .u64 (lb 3 a.natAbs), .int .i64 kk, .int .i64 1] : Array Value).toList rfl rfl (news9 _ _ _ _ (by simp)) (by intro u hu; simp only [List.mem_cons, List.not_mem_nil, or_false] at hu; rcases hu with rfl | rfl | rfl | rfl | rfl | rfl | rfl <;> rfl) (by decide) (by unfold maxLen; omega) (by omega) (by simp <;> omega) _ rfl ?_; intro g4 cap4 w4 hown hgrow hat hlt4; have BE4 := Lib.hid (Be.snoc hown HF1.out); have ON4 := Lib.hid ((ON1.out.below (bal (bal (Below.refl _ _) _) _)).app (L.length + 1) cap4 hgrow hat (Nat.le_refl _)); have X4 := Row12.grown (Row12.alloc (Row12.alloc X1 _) _) hgrow (fun hc => by have := HOBR.out _ hc.symm; omega); obtain ⟨r0, r1, r2, r3, r4, r5, r6, r7, r8, r9, r10, r11⟩ := X4.parts; clear hown hgrow hat hlt4))
              ((with_reducible refine (HN.out _).mono ?_); rintro e w5 ⟨rfl, hb⟩)
              have X5 := Row12.keep hb X4; have BE5 := Lib.hid (BE4.out.keep hb); have ON5 := Lib.hid (ON4.out.below hb)
              have hsz5 := ON5.out.size
              have HOB5 := Lib.hid (fun g hg => (own_base9 BE5.out g hg).2)
              clear hb r0 r1 r2 r3 r4 r5 r6 r7 r8 r9 r10 r11 BE4 ON4
              obtain ⟨r0, r1, r2, r3, r4, r5, r6, r7, r8, r9, r10, r11⟩ := X5.parts
              have z1 := fun o => alloc_cell9 r1 o
              go_wp2
              go_roundw
              case rel => exact ⟨k + 1, by omega, by go_num, Lib.hid (by rw [HTK.out, HEV.out, ← List.append_assoc, HLL.out]; exact World.ownsRow.alloc BE5.out _), Lib.hid (ON5.out.below (bal (Below.refl _ _) _))⟩
              case measure => simp [intOf]; omega
      | none =>
        cases o2 with
        | none =>
          have heL : loE ((none, none) : Sp) = -topM := rfl
          have heH : hiE ((none, none) : Sp) = topM := rfl
          have hne : ¬ hiE ((none, none) : Sp) < loE ((none, none) : Sp) := by have := hSR.lo; rw [heH]; omega
          obtain ⟨e1, hv, hf1⟩ := evs_one (k := kk) hSR hne (by rw [heH]; omega)
          rw [heL] at hf1
          have HEV := Lib.hid hv; have HF1 := Lib.hid hf1; clear hv hf1
          have HN : Hid (∀ W, Calls Tryz.prog 74 #[.agg #[.bool false, .int .u64 (lb 0 0), .int .u64 (lb 1 0), .int .u64 (lb 2 0), .int .u64 (lb 3 0)]] W fun e w' => e = .returned (.tuple #[.agg #[.bool false, .int .u64 (lb 0 1), .int .u64 (lb 1 1), .int .u64 (lb 2 1), .int .u64 (lb 3 1)], .bool true]) ∧ Below W.heap.size W w') := Lib.hid (fun W => next_z 0 (by decide) W)
          have hr' : C12 wr bb (off + k * 12) ⟨false, false, false, 0, false, 0⟩ := hr
          obtain ⟨c0, c1, c2, c3, c4, c5, c6, c7, c8, c9, c10, c11⟩ := hr'.twelve
          have HE1 : Hid (∀ W, Calls Tryz.prog 78 #[V12 false false false (lb 0 0) (lb 1 0) (lb 2 0) (lb 3 0) false (lb 0 0) (lb 1 0) (lb 2 0) (lb 3 0)] W fun e w' => e = .returned (.bool false) ∧ Below W.heap.size W w') := Lib.hid (fun W => by have := hE W; rw [decide_eq_false hne] at this; exact this)
          clear hr hr' hE
          go_wp2_with fail
          ((with_reducible refine (HE1.out _).mono ?_); rintro e w1 ⟨rfl, hb⟩)
          have X1 := Row12.keep hb (Row12.new wr (.bool false) (.bool false) (.bool false) (.int .u64 (lb 0 0)) (.int .u64 (lb 1 0)) (.int .u64 (lb 2 0)) (.int .u64 (lb 3 0)) (.bool false) (.int .u64 (lb 0 0)) (.int .u64 (lb 1 0)) (.int .u64 (lb 2 0)) (.int .u64 (lb 3 0)))
          have hb1 := btr (bal (Below.refl wr.heap.size wr) _) hb
          have BE1 := Lib.hid (BE.out.keep hb1); have ON1 := Lib.hid (ON.out.below hb1)
          have hsz1 := X1.lt
          clear hb hb1 c0 c1 c2 c3 c4 c5 c6 c7 c8 c9 c10 c11
          obtain ⟨p0, p1, p2, p3, p4, p5, p6, p7, p8, p9, p10, p11⟩ := X1.parts
          have z0 := fun o => alloc_cell9 p0 o
          go_wp2_with fail
          ((with_reducible refine (least_raw _).mono ?_); rintro e w2 ⟨rfl, hb⟩)
          have X2 := Row12.keep hb (Row12.alloc X1 (.cells #[.bool false, .int .u64 (lb 0 0), .int .u64 (lb 1 0), .int .u64 (lb 2 0), .int .u64 (lb 3 0)] 29))
          have Y2 := Row5.keep hb (Row5.new w1 (.bool false) (.int .u64 (lb 0 0)) (.int .u64 (lb 1 0)) (.int .u64 (lb 2 0)) (.int .u64 (lb 3 0)))
          have hb2 := btr (bal (Below.refl w1.heap.size w1) _) hb
          have BE2 := Lib.hid (BE1.out.keep hb2); have ON2 := Lib.hid (ON1.out.below hb2)
          have hsz2 := hb2.size; have hy2 := Y2.lt
          clear hb hb2 p0 p1 p2 p3 p4 p5 p6 p7 p8 p9 p10 p11
          obtain ⟨f0, f1, f2, f3, f4⟩ := Y2.free
          obtain ⟨p0, p1, p2, p3, p4, p5, p6, p7, p8, p9, p10, p11⟩ := X2.parts
          obtain ⟨q0, q1, q2, q3, q4⟩ := Y2.parts
          go_upto_region 8 with (fail)
          go_name_world w3 hw3
          have X3 : Row12 w3 wr.heap.size (.bool false) (.bool false) (.bool false) (.int .u64 (lb 0 0)) (.int .u64 (lb 1 0)) (.int .u64 (lb 2 0)) (.int .u64 (lb 3 0)) (.bool false) (.int .u64 (lb 0 0)) (.int .u64 (lb 1 0)) (.int .u64 (lb 2 0)) (.int .u64 (lb 3 0)) := by rw [← hw3]; repeat (first | (with_reducible exact X2) | (refine Row12.set ?_ (by omega) _))
          have Y3 : Row5 w3 w1.heap.size (.bool true) (.int .u64 18446744073709551615) (.int .u64 18446744073709551615) (.int .u64 18446744073709551615) (.int .u64 18446744073709551615) := by rw [← hw3]; exact Row5.set5 Y2 _ _ _ _ _
          have BE3 : Hid (Be w3 base u0 L) := Lib.hid (by rw [← hw3]; have hq : u0.ownBlock ≠ some w1.heap.size := fun hc => (by have := HOBR.out _ hc; omega); exact own_set9 (own_set9 (own_set9 (own_set9 (own_set9 BE2.out hq _) hq _) hq _) hq _) hq _)
          have ON3 : Hid (Onw w w3 es u0) := Lib.hid (by rw [← hw3]; have hq : w.heap.size ≤ w1.heap.size := (by omega); exact ((((ON2.out.set hq _).set hq _).set hq _).set hq _).set hq _)
          have hsz3 : w3.heap.size = w2.heap.size := by rw [← hw3]; simp
          clear hw3 X1 X2 Y2 BE1 ON1 BE2 ON2 p0 p1 p2 p3 p4 p5 p6 p7 p8 p9 p10 p11 q0 q1 q2 q3 q4 f0 f1 f2 f3 f4
          obtain ⟨p0, p1, p2, p3, p4, p5, p6, p7, p8, p9, p10, p11⟩ := X3.parts
          obtain ⟨q0, q1, q2, q3, q4⟩ := Y3.parts
          go_wp2_with (first | fail | (at_builtin; refine wpList_append_lies _ rfl (.tmp 26) (.tmp 30) 77 rfl base 76 i0 (.agg #[.bool false, .int .u64 0, .int .u64 0, .int .u64 0, .int .u64 0, .int .i64 0, .int .i64 0]) 7 56 und_edges hi0 hz0 hz1 hz2 rfl (by decide) u0 L.length _ rfl (World.ownsRow.alloc BE3.out _) ⟨w2.heap.size, 0, none⟩ 1 1 (#[.bool true, .int .u64 18446744073709551615, .int .u64 18446744073709551615, .int .u64 18446744073709551615, .int .u64 18446744073709551615, .int .i64 kk, .int .i64 1] : Array Value).toList rfl rfl (news9 _ _ _ _ hsz3) (by intro u hu; simp only [List.mem_cons, List.not_mem_nil, or_false] at hu; rcases hu with rfl | rfl | rfl | rfl | rfl | rfl | rfl <;> rfl) (by decide) (by unfold maxLen; omega) (by omega) (by simp <;> omega) _ rfl ?_; intro g4 cap4 w4 hown hgrow hat hlt4; have BE4 := Lib.hid (Be.snoc hown (least_enc HF1.out)); have ON4 := Lib.hid ((ON3.out.below (bal (Below.refl _ _) _)).app (L.length + 1) cap4 hgrow hat (Nat.le_refl _)); have X4 := Row12.grown (Row12.alloc X3 _) hgrow (fun hc => by have := HOBR.out _ hc.symm; omega); obtain ⟨r0, r1, r2, r3, r4, r5, r6, r7, r8, r9, r10, r11⟩ := X4.parts; clear hown hgrow hat hlt4))
          ((with_reducible refine (HN.out _).mono ?_); rintro e w5 ⟨rfl, hb⟩)
          have X5 := Row12.keep hb X4; have BE5 := Lib.hid (BE4.out.keep hb); have ON5 := Lib.hid (ON4.out.below hb)
          have hsz5 := ON5.out.size
          have HOB5 := Lib.hid (fun g hg => (own_base9 BE5.out g hg).2)
          clear hb r0 r1 r2 r3 r4 r5 r6 r7 r8 r9 r10 r11 BE4 ON4
          obtain ⟨r0, r1, r2, r3, r4, r5, r6, r7, r8, r9, r10, r11⟩ := X5.parts
          have z1 := fun o => alloc_cell9 r1 o
          go_wp2
          go_roundw
          case rel => exact ⟨k + 1, by omega, by go_num, Lib.hid (by rw [HTK.out, HEV.out, ← List.append_assoc, HLL.out]; exact World.ownsRow.alloc BE5.out _), Lib.hid (ON5.out.below (bal (Below.refl _ _) _))⟩
          case measure => simp [intOf]; omega
        | some b =>
          have heL : loE ((none, some b) : Sp) = -topM := rfl
          have heH : hiE ((none, some b) : Sp) = b := rfl
          by_cases hem : hiE ((none, some b) : Sp) < loE ((none, some b) : Sp)
          · exact absurd hem (by have := hSR.hi; rw [heL]; omega)
          · have hne := hem
            by_cases hup : b < topM
            · obtain ⟨e1, e2, hv, hf1, hf2⟩ := evs_two (k := kk) hSR hne (by rw [heH]; exact hup)
              rw [heL] at hf1
              rw [heH] at hf2
              have HEV := Lib.hid hv; have HF1 := Lib.hid hf1; have HF2 := Lib.hid hf2; clear hv hf1 hf2
              have HN : Hid (∀ W, Calls Tryz.prog 74 #[.agg #[.bool (decide (b < 0)), .int .u64 (lb 0 b.natAbs), .int .u64 (lb 1 b.natAbs), .int .u64 (lb 2 b.natAbs), .int .u64 (lb 3 b.natAbs)]] W fun e w' => e = .returned (.tuple #[.agg #[.bool (decide (b + 1 < 0)), .int .u64 (lb 0 (b + 1).natAbs), .int .u64 (lb 1 (b + 1).natAbs), .int .u64 (lb 2 (b + 1).natAbs), .int .u64 (lb 3 (b + 1).natAbs)], .bool true]) ∧ Below W.heap.size W w') := Lib.hid (fun W => by have := next_z b (inR_abs.1 (hSR.2 b rfl)) W; unfold Znum at this; rw [if_pos (inR_abs.1 (by have := hSR.2 b rfl; unfold inR at *; omega))] at this; exact this)
              have hr' : C12 wr bb (off + k * 12) ⟨false, true, false, 0, (decide (b < 0)), b.natAbs⟩ := hr
              obtain ⟨c0, c1, c2, c3, c4, c5, c6, c7, c8, c9, c10, c11⟩ := hr'.twelve
              have HE1 : Hid (∀ W, Calls Tryz.prog 78 #[V12 false true false (lb 0 0) (lb 1 0) (lb 2 0) (lb 3 0) (decide (b < 0)) (lb 0 b.natAbs) (lb 1 b.natAbs) (lb 2 b.natAbs) (lb 3 b.natAbs)] W fun e w' => e = .returned (.bool false) ∧ Below W.heap.size W w') := Lib.hid (fun W => by have := hE W; rw [decide_eq_false hne] at this; exact this)
              clear hr hr' hE
              go_wp2_with fail
              ((with_reducible refine (HE1.out _).mono ?_); rintro e w1 ⟨rfl, hb⟩)
              have X1 := Row12.keep hb (Row12.new wr (.bool false) (.bool true) (.bool false) (.int .u64 (lb 0 0)) (.int .u64 (lb 1 0)) (.int .u64 (lb 2 0)) (.int .u64 (lb 3 0)) (.bool (decide (b < 0))) (.int .u64 (lb 0 b.natAbs)) (.int .u64 (lb 1 b.natAbs)) (.int .u64 (lb 2 b.natAbs)) (.int .u64 (lb 3 b.natAbs)))
              have hb1 := btr (bal (Below.refl wr.heap.size wr) _) hb
              have BE1 := Lib.hid (BE.out.keep hb1); have ON1 := Lib.hid (ON.out.below hb1)
              have hsz1 := X1.lt
              clear hb hb1 c0 c1 c2 c3 c4 c5 c6 c7 c8 c9 c10 c11
              obtain ⟨p0, p1, p2, p3, p4, p5, p6, p7, p8, p9, p10, p11⟩ := X1.parts
              have z0 := fun o => alloc_cell9 p0 o
              go_wp2_with fail
              ((with_reducible refine (least_raw _).mono ?_); rintro e w2 ⟨rfl, hb⟩)
              have X2 := Row12.keep hb (Row12.alloc X1 (.cells #[.bool false, .int .u64 (lb 0 0), .int .u64 (lb 1 0), .int .u64 (lb 2 0), .int .u64 (lb 3 0)] 29))
              have Y2 := Row5.keep hb (Row5.new w1 (.bool false) (.int .u64 (lb 0 0)) (.int .u64 (lb 1 0)) (.int .u64 (lb 2 0)) (.int .u64 (lb 3 0)))
              have hb2 := btr (bal (Below.refl w1.heap.size w1) _) hb
              have BE2 := Lib.hid (BE1.out.keep hb2); have ON2 := Lib.hid (ON1.out.below hb2)
              have hsz2 := hb2.size; have hy2 := Y2.lt
              clear hb hb2 p0 p1 p2 p3 p4 p5 p6 p7 p8 p9 p10 p11
              obtain ⟨f0, f1, f2, f3, f4⟩ := Y2.free
              obtain ⟨p0, p1, p2, p3, p4, p5, p6, p7, p8, p9, p10, p11⟩ := X2.parts
              obtain ⟨q0, q1, q2, q3, q4⟩ := Y2.parts
              go_upto_region 8 with (fail)
              go_name_world w3 hw3
              have X3 : Row12 w3 wr.heap.size (.bool false) (.bool true) (.bool false) (.int .u64 (lb 0 0)) (.int .u64 (lb 1 0)) (.int .u64 (lb 2 0)) (.int .u64 (lb 3 0)) (.bool (decide (b < 0))) (.int .u64 (lb 0 b.natAbs)) (.int .u64 (lb 1 b.natAbs)) (.int .u64 (lb 2 b.natAbs)) (.int .u64 (lb 3 b.natAbs)) := by rw [← hw3]; repeat (first | (with_reducible exact X2) | (refine Row12.set ?_ (by omega) _))
              have Y3 : Row5 w3 w1.heap.size (.bool true) (.int .u64 18446744073709551615) (.int .u64 18446744073709551615) (.int .u64 18446744073709551615) (.int .u64 18446744073709551615) := by rw [← hw3]; exact Row5.set5 Y2 _ _ _ _ _
              have BE3 : Hid (Be w3 base u0 L) := Lib.hid (by rw [← hw3]; have hq : u0.ownBlock ≠ some w1.heap.size := fun hc => (by have := HOBR.out _ hc; omega); exact own_set9 (own_set9 (own_set9 (own_set9 (own_set9 BE2.out hq _) hq _) hq _) hq _) hq _)
              have ON3 : Hid (Onw w w3 es u0) := Lib.hid (by rw [← hw3]; have hq : w.heap.size ≤ w1.heap.size := (by omega); exact ((((ON2.out.set hq _).set hq _).set hq _).set hq _).set hq _)
              have hsz3 : w3.heap.size = w2.heap.size := by rw [← hw3]; simp
              clear hw3 X1 X2 Y2 BE1 ON1 BE2 ON2 p0 p1 p2 p3 p4 p5 p6 p7 p8 p9 p10 p11 q0 q1 q2 q3 q4 f0 f1 f2 f3 f4
              obtain ⟨p0, p1, p2, p3, p4, p5, p6, p7, p8, p9, p10, p11⟩ := X3.parts
              obtain ⟨q0, q1, q2, q3, q4⟩ := Y3.parts
              go_wp2_with (first | fail | (at_builtin; refine wpList_append_lies _ rfl (.tmp 26) (.tmp 30) 77 rfl base 76 i0 (.agg #[.bool false, .int .u64 0, .int .u64 0, .int .u64 0, .int .u64 0, .int .i64 0, .int .i64 0]) 7 56 und_edges hi0 hz0 hz1 hz2 rfl (by decide) u0 L.length _ rfl (World.ownsRow.alloc BE3.out _) ⟨w2.heap.size, 0, none⟩ 1 1 (#[.bool true, .int .u64 18446744073709551615, .int .u64 18446744073709551615, .int .u64 18446744073709551615, .int .u64 18446744073709551615, .int .i64 kk, .int .i64 1] : Array Value).toList rfl rfl (news9 _ _ _ _ hsz3) (by intro u hu; simp only [List.mem_cons, List.not_mem_nil, or_false] at hu; rcases hu with rfl | rfl | rfl | rfl | rfl | rfl | rfl <;> rfl) (by decide) (by unfold maxLen; omega) (by omega) (by simp <;> omega) _ rfl ?_; intro g4 cap4 w4 hown hgrow hat hlt4; have BE4 := Lib.hid (Be.snoc hown (least_enc HF1.out)); have ON4 := Lib.hid ((ON3.out.below (bal (Below.refl _ _) _)).app (L.length + 1) cap4 hgrow hat (Nat.le_refl _)); have X4 := Row12.grown (Row12.alloc X3 _) hgrow (fun hc => by have := HOBR.out _ hc.symm; omega); obtain ⟨r0, r1, r2, r3, r4, r5, r6, r7, r8, r9, r10, r11⟩ := X4.parts; clear hown hgrow hat hlt4))
              ((with_reducible refine (HN.out _).mono ?_); rintro e w5 ⟨rfl, hb⟩)
              have X5 := Row12.keep hb X4; have BE5 := Lib.hid (BE4.out.keep hb); have ON5 := Lib.hid (ON4.out.below hb)
              have hsz5 := ON5.out.size
              have HOB5 := Lib.hid (fun g hg => (own_base9 BE5.out g hg).2)
              clear hb r0 r1 r2 r3 r4 r5 r6 r7 r8 r9 r10 r11 BE4 ON4
              obtain ⟨r0, r1, r2, r3, r4, r5, r6, r7, r8, r9, r10, r11⟩ := X5.parts
              have z1 := fun o => alloc_cell9 r1 o
              go_wp2_with (first | fail | (at_builtin; refine wpList_append_lies _ rfl (.tmp 43) (.tmp 47) 77 rfl base 76 i0 (.agg #[.bool false, .int .u64 0, .int .u64 0, .int .u64 0, .int .u64 0, .int .i64 0, .int .i64 0]) 7 56 und_edges hi0 hz0 hz1 hz2 rfl (by decide) (.slice (some ⟨g4, 0, none⟩) (L.length + 1) cap4) (L ++ [e1]).length _ rfl (World.ownsRow.alloc (World.ownsRow.alloc BE5.out _) _) ⟨w5.heap.size + 1, 0, none⟩ 1 1 (#[.bool (decide (b + 1 < 0)), .int .u64 (lb 0 (b + 1).natAbs), .int .u64 (lb 1 (b + 1).natAbs), .int .u64 (lb 2 (b + 1).natAbs), .int .u64 (lb 3 (b + 1).natAbs), .int .i64 kk, .int .i64 (-1)] : Array Value).toList rfl rfl (news9 _ _ _ _ (by simp)) (by intro u hu; simp only [List.mem_cons, List.not_mem_nil, or_false] at hu; rcases hu with rfl | rfl | rfl | rfl | rfl | rfl | rfl <;> rfl) (by decide) (by rw [List.length_append]; unfold maxLen; simp only [List.length_singleton]; omega) (by rw [List.length_append]; simp only [List.length_singleton]; omega) (by simp <;> omega) _ rfl ?_; intro g6 cap6 w6 hown hgrow hat hlt6; have BE6 := Lib.hid (Be.snoc hown HF2.out); have ON6 := Lib.hid ((ON5.out.below (bal (bal (Below.refl _ _) _) _)).app ((L ++ [e1]).length + 1) cap6 hgrow hat (Nat.le_refl _)); clear hown hgrow hat hlt6))
              go_roundw
              case rel => exact ⟨k + 1, by omega, by go_num, Lib.hid (by rw [HTK.out, HEV.out, ← List.append_assoc, HLL.out]; simpa using BE6.out), Lib.hid (by simpa using ON6.out)⟩
              case measure => simp [intOf]; omega
            · obtain ⟨e1, hv, hf1⟩ := evs_one (k := kk) hSR hne (by rw [heH]; exact hup)
              rw [heL] at hf1
              have HEV := Lib.hid hv; have HF1 := Lib.hid hf1; clear hv hf1
              have HN : Hid (∀ W, Calls Tryz.prog 74 #[.agg #[.bool (decide (b < 0)), .int .u64 (lb 0 b.natAbs), .int .u64 (lb 1 b.natAbs), .int .u64 (lb 2 b.natAbs), .int .u64 (lb 3 b.natAbs)]] W fun e w' => e = .returned (.tuple #[.agg #[.bool false, .int .u64 0, .int .u64 0, .int .u64 0, .int .u64 0], .bool false]) ∧ Below W.heap.size W w') := Lib.hid (fun W => by have := next_z b (inR_abs.1 (hSR.2 b rfl)) W; unfold Znum at this; rw [if_neg (fun h => hup (by have := inR_abs.2 h; unfold inR at this; omega))] at this; exact this)
              have hr' : C12 wr bb (off + k * 12) ⟨false, true, false, 0, (decide (b < 0)), b.natAbs⟩ := hr
              obtain ⟨c0, c1, c2, c3, c4, c5, c6, c7, c8, c9, c10, c11⟩ := hr'.twelve
              have HE1 : Hid (∀ W, Calls Tryz.prog 78 #[V12 false true false (lb 0 0) (lb 1 0) (lb 2 0) (lb 3 0) (decide (b < 0)) (lb 0 b.natAbs) (lb 1 b.natAbs) (lb 2 b.natAbs) (lb 3 b.natAbs)] W fun e w' => e = .returned (.bool false) ∧ Below W.heap.size W w') := Lib.hid (fun W => by have := hE W; rw [decide_eq_false hne] at this; exact this)
              clear hr hr' hE
              go_wp2_with fail
              ((with_reducible refine (HE1.out _).mono ?_); rintro e w1 ⟨rfl, hb⟩)
              have X1 := Row12.keep hb (Row12.new wr (.bool false) (.bool true) (.bool false) (.int .u64 (lb 0 0)) (.int .u64 (lb 1 0)) (.int .u64 (lb 2 0)) (.int .u64 (lb 3 0)) (.bool (decide (b < 0))) (.int .u64 (lb 0 b.natAbs)) (.int .u64 (lb 1 b.natAbs)) (.int .u64 (lb 2 b.natAbs)) (.int .u64 (lb 3 b.natAbs)))
              have hb1 := btr (bal (Below.refl wr.heap.size wr) _) hb
              have BE1 := Lib.hid (BE.out.keep hb1); have ON1 := Lib.hid (ON.out.below hb1)
              have hsz1 := X1.lt
              clear hb hb1 c0 c1 c2 c3 c4 c5 c6 c7 c8 c9 c10 c11
              obtain ⟨p0, p1, p2, p3, p4, p5, p6, p7, p8, p9, p10, p11⟩ := X1.parts
              have z0 := fun o => alloc_cell9 p0 o
              go_wp2_with fail
              ((with_reducible refine (least_raw _).mono ?_); rintro e w2 ⟨rfl, hb⟩)
              have X2 := Row12.keep hb (Row12.alloc X1 (.cells #[.bool false, .int .u64 (lb 0 0), .int .u64 (lb 1 0), .int .u64 (lb 2 0), .int .u64 (lb 3 0)] 29))
              have Y2 := Row5.keep hb (Row5.new w1 (.bool false) (.int .u64 (lb 0 0)) (.int .u64 (lb 1 0)) (.int .u64 (lb 2 0)) (.int .u64 (lb 3 0)))
              have hb2 := btr (bal (Below.refl w1.heap.size w1) _) hb
              have BE2 := Lib.hid (BE1.out.keep hb2); have ON2 := Lib.hid (ON1.out.below hb2)
              have hsz2 := hb2.size; have hy2 := Y2.lt
              clear hb hb2 p0 p1 p2 p3 p4 p5 p6 p7 p8 p9 p10 p11
              obtain ⟨f0, f1, f2, f3, f4⟩ := Y2.free
              obtain ⟨p0, p1, p2, p3, p4, p5, p6, p7, p8, p9, p10, p11⟩ := X2.parts
              obtain ⟨q0, q1, q2, q3, q4⟩ := Y2.parts
              go_upto_region 8 with (fail)
              go_name_world w3 hw3
              have X3 : Row12 w3 wr.heap.size (.bool false) (.bool true) (.bool false) (.int .u64 (lb 0 0)) (.int .u64 (lb 1 0)) (.int .u64 (lb 2 0)) (.int .u64 (lb 3 0)) (.bool (decide (b < 0))) (.int .u64 (lb 0 b.natAbs)) (.int .u64 (lb 1 b.natAbs)) (.int .u64 (lb 2 b.natAbs)) (.int .u64 (lb 3 b.natAbs)) := by rw [← hw3]; repeat (first | (with_reducible exact X2) | (refine Row12.set ?_ (by omega) _))
              have Y3 : Row5 w3 w1.heap.size (.bool true) (.int .u64 18446744073709551615) (.int .u64 18446744073709551615) (.int .u64 18446744073709551615) (.int .u64 18446744073709551615) := by rw [← hw3]; exact Row5.set5 Y2 _ _ _ _ _
              have BE3 : Hid (Be w3 base u0 L) := Lib.hid (by rw [← hw3]; have hq : u0.ownBlock ≠ some w1.heap.size := fun hc => (by have := HOBR.out _ hc; omega); exact own_set9 (own_set9 (own_set9 (own_set9 (own_set9 BE2.out hq _) hq _) hq _) hq _) hq _)
              have ON3 : Hid (Onw w w3 es u0) := Lib.hid (by rw [← hw3]; have hq : w.heap.size ≤ w1.heap.size := (by omega); exact ((((ON2.out.set hq _).set hq _).set hq _).set hq _).set hq _)
              have hsz3 : w3.heap.size = w2.heap.size := by rw [← hw3]; simp
              clear hw3 X1 X2 Y2 BE1 ON1 BE2 ON2 p0 p1 p2 p3 p4 p5 p6 p7 p8 p9 p10 p11 q0 q1 q2 q3 q4 f0 f1 f2 f3 f4
              obtain ⟨p0, p1, p2, p3, p4, p5, p6, p7, p8, p9, p10, p11⟩ := X3.parts
              obtain ⟨q0, q1, q2, q3, q4⟩ := Y3.parts
              go_wp2_with (first | fail | (at_builtin; refine wpList_append_lies _ rfl (.tmp 26) (.tmp 30) 77 rfl base 76 i0 (.agg #[.bool false, .int .u64 0, .int .u64 0, .int .u64 0, .int .u64 0, .int .i64 0, .int .i64 0]) 7 56 und_edges hi0 hz0 hz1 hz2 rfl (by decide) u0 L.length _ rfl (World.ownsRow.alloc BE3.out _) ⟨w2.heap.size, 0, none⟩ 1 1 (#[.bool true, .int .u64 18446744073709551615, .int .u64 18446744073709551615, .int .u64 18446744073709551615, .int .u64 18446744073709551615, .int .i64 kk, .int .i64 1] : Array Value).toList rfl rfl (news9 _ _ _ _ hsz3) (by intro u hu; simp only [List.mem_cons, List.not_mem_nil, or_false] at hu; rcases hu with rfl | rfl | rfl | rfl | rfl | rfl | rfl <;> rfl) (by decide) (by unfold maxLen; omega) (by omega) (by simp <;> omega) _ rfl ?_; intro g4 cap4 w4 hown hgrow hat hlt4; have BE4 := Lib.hid (Be.snoc hown (least_enc HF1.out)); have ON4 := Lib.hid ((ON3.out.below (bal (Below.refl _ _) _)).app (L.length + 1) cap4 hgrow hat (Nat.le_refl _)); have X4 := Row12.grown (Row12.alloc X3 _) hgrow (fun hc => by have := HOBR.out _ hc.symm; omega); obtain ⟨r0, r1, r2, r3, r4, r5, r6, r7, r8, r9, r10, r11⟩ := X4.parts; clear hown hgrow hat hlt4))
              ((with_reducible refine (HN.out _).mono ?_); rintro e w5 ⟨rfl, hb⟩)
              have X5 := Row12.keep hb X4; have BE5 := Lib.hid (BE4.out.keep hb); have ON5 := Lib.hid (ON4.out.below hb)
              have hsz5 := ON5.out.size
              have HOB5 := Lib.hid (fun g hg => (own_base9 BE5.out g hg).2)
              clear hb r0 r1 r2 r3 r4 r5 r6 r7 r8 r9 r10 r11 BE4 ON4
              obtain ⟨r0, r1, r2, r3, r4, r5, r6, r7, r8, r9, r10, r11⟩ := X5.parts
              have z1 := fun o => alloc_cell9 r1 o
              go_wp2
              go_roundw
              case rel => exact ⟨k + 1, by omega, by go_num, Lib.hid (by rw [HTK.out, HEV.out, ← List.append_assoc, HLL.out]; exact World.ownsRow.alloc BE5.out _), Lib.hid (ON5.out.below (bal (Below.refl _ _) _))⟩
              case measure => simp [intOf]; omega
    · have hge : ¬ (k : Int) < (A.length : Int) := by omega
      have HF : Hid ((A.take k).flatMap (evs kk) = A.flatMap (evs kk)) := Lib.hid (by rw [List.take_of_length_le (by omega)])
      go_wp2
      go_ret
      exact ⟨_, rfl, by rw [← HF.out]; exact BE.out, ON.out⟩
end Go.Proofs.YtjlgiejggcbgbaaGreatDoor
