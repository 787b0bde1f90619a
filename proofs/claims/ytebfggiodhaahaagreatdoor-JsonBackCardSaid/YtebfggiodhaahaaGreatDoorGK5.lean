/-
  JsDocR JsCutA JsDecC, one behind the other: a claim holds at most 60 files.
-/
import Derived.Test.YtebfggiodhaahaaGreatDoorGK3
section
namespace Go.Proofs.YtebfggiodhaahaaGreatDoor
open Go.RowKit Go.Shelf
set_option linter.unusedVariables false
set_option linter.unusedSimpArgs false

set_option maxRecDepth 100000 in
set_option maxHeartbeats 2000000 in
theorem rdoc_rest (l : List UInt8) (b : Nat) (lg un : Bool) (w : World) (h : Jr w b (str l) lg un) (Q : Own → List VT → List UInt8 → Bool → Bool → World → World → Prop) (hend : ∀ o kids r lg2 un2 W X, Q o kids r lg2 un2 W X → jskip r ≠ []) 
    (kt : ∀ W, But w.heap.size b w W → Jr W b (str l) lg un → Calls Tryz.prog 17 #[.pointer (some ⟨b, 0, none⟩)] W fun e w' => ∃ (o : Own) (kids : List VT) (r : List UInt8) (lg2 un2 : Bool), e = .returned (.tuple #[V10 o.kind o.g (lb 0 o.x) (lb 1 o.x) (lb 2 o.x) (lb 3 o.x) o.bits o.text o.la kids.length o.lcap o.ka o.keys.length o.kcap, .bool true]) ∧ Q o kids r lg2 un2 W w' ∧ Jr w' b (str r) lg2 un2 ∧ But W.heap.size b W w') :
    Calls Tryz.prog 11 #[.pointer (some ⟨b, 0, none⟩)] w fun e w' => ∃ (o : Own) (kids : List VT) (r : List UInt8) (lg2 un2 : Bool) (W X : World), e = .returned (.tuple #[V10 o.kind o.g (lb 0 o.x) (lb 1 o.x) (lb 2 o.x) (lb 3 o.x) o.bits o.text o.la kids.length o.lcap o.ka o.keys.length o.kcap, .bool false]) ∧ Q o kids r lg2 un2 W X ∧ But w.heap.size b w W ∧ Jr w' b (str (jskip r)) lg2 un2 ∧ But w.heap.size b w w' ∧ w.heap.size < W.heap.size ∧ ButS (fun k => k = w.heap.size ∨ k = b) X w' := by
  have hbw := h.lt
  have KT := Lib.hid kt
  have HE := Lib.hid hend
  have J0 : Hid (Jr (w.alloc (.cells #[.int .i64 0, .bool false, .int .u64 0, .int .u64 0, .int .u64 0, .int .u64 0, .int .u64 0, .string ⟨#[]⟩, .slice none 0 0, .slice none 0 0] 32)) b (str l) lg un) := Lib.hid (h.alloc _)
  have B0 : Hid (But w.heap.size b w (w.alloc (.cells #[.int .i64 0, .bool false, .int .u64 0, .int .u64 0, .int .u64 0, .int .u64 0, .int .u64 0, .string ⟨#[]⟩, .slice none 0 0, .slice none 0 0] 32))) := Lib.hid (But.of (bal (Below.refl _ _) _))
  have A0 : Hid (Row10 (w.alloc (.cells #[.int .i64 0, .bool false, .int .u64 0, .int .u64 0, .int .u64 0, .int .u64 0, .int .u64 0, .string ⟨#[]⟩, .slice none 0 0, .slice none 0 0] 32)) w.heap.size (.int .i64 0) (.bool false) (.int .u64 0) (.int .u64 0) (.int .u64 0) (.int .u64 0) (.int .u64 0) (.string ⟨#[]⟩) (.slice none 0 0) (.slice none 0 0)) := Lib.hid (Row10.new w (.int .i64 0) (.bool false) (.int .u64 0) (.int .u64 0) (.int .u64 0) (.int .u64 0) (.int .u64 0) (.string ⟨#[]⟩) (.slice none 0 0) (.slice none 0 0))
  clear h kt hend
  go_enter Tryz.func11, Tryz.ntmps11
  go_wp2_with (first
    | (go_at_call 17; ((with_reducible refine (KT.out _ B0.out J0.out).mono ?_); rintro e w1 ⟨o, kids, r, lg2, un2, rfl, hQ, hj, hb⟩; have HQ := Lib.hid hQ; have J1 := Lib.hid hj; have HB1 := Lib.hid hb; have s1 : w.heap.size + 1 ≤ w1.heap.size := (by have h9 := hb.size; simpa using h9); have B1 := Lib.hid (B0.out.trans (hb.mono (by simp))); have A1 := Lib.hid (A0.out.butJ hb (by omega)); have A2 : Hid (Row10 (w1.alloc (.cells #[.int .i64 o.kind, .bool o.g, .int .u64 (lb 0 o.x), .int .u64 (lb 1 o.x), .int .u64 (lb 2 o.x), .int .u64 (lb 3 o.x), .int .u64 o.bits, .string o.text, .slice o.la kids.length o.lcap, .slice o.ka o.keys.length o.kcap] 32)) w.heap.size (.int .i64 0) (.bool false) (.int .u64 0) (.int .u64 0) (.int .u64 0) (.int .u64 0) (.int .u64 0) (.string ⟨#[]⟩) (.slice none 0 0) (.slice none 0 0)) := Lib.hid (A1.out.alloc _); have D2 : Hid (Row10 (w1.alloc (.cells #[.int .i64 o.kind, .bool o.g, .int .u64 (lb 0 o.x), .int .u64 (lb 1 o.x), .int .u64 (lb 2 o.x), .int .u64 (lb 3 o.x), .int .u64 o.bits, .string o.text, .slice o.la kids.length o.lcap, .slice o.ka o.keys.length o.kcap] 32)) w1.heap.size (.int .i64 o.kind) (.bool o.g) (.int .u64 (lb 0 o.x)) (.int .u64 (lb 1 o.x)) (.int .u64 (lb 2 o.x)) (.int .u64 (lb 3 o.x)) (.int .u64 o.bits) (.string o.text) (.slice o.la kids.length o.lcap) (.slice o.ka o.keys.length o.kcap)) := Lib.hid (Row10.new w1 (.int .i64 o.kind) (.bool o.g) (.int .u64 (lb 0 o.x)) (.int .u64 (lb 1 o.x)) (.int .u64 (lb 2 o.x)) (.int .u64 (lb 3 o.x)) (.int .u64 o.bits) (.string o.text) (.slice o.la kids.length o.lcap) (.slice o.ka o.keys.length o.kcap)); have J2 : Hid (Jr (w1.alloc (.cells #[.int .i64 o.kind, .bool o.g, .int .u64 (lb 0 o.x), .int .u64 (lb 1 o.x), .int .u64 (lb 2 o.x), .int .u64 (lb 3 o.x), .int .u64 o.bits, .string o.text, .slice o.la kids.length o.lcap, .slice o.ka o.keys.length o.kcap] 32)) b (str r) lg2 un2) := Lib.hid (J1.out.alloc _); have B2 : Hid (But w.heap.size b w (w1.alloc (.cells #[.int .i64 o.kind, .bool o.g, .int .u64 (lb 0 o.x), .int .u64 (lb 1 o.x), .int .u64 (lb 2 o.x), .int .u64 (lb 3 o.x), .int .u64 o.bits, .string o.text, .slice o.la kids.length o.lcap, .slice o.ka o.keys.length o.kcap] 32))) := Lib.hid (B1.out.trans (But.ofB (bal (Below.refl _ w1) _) (by omega))); clear hQ hj hb))
    | (go_at_call 18; ((with_reducible refine (rskip_any r b lg2 un2 _ J2.out).mono ?_); rintro e w3 ⟨rfl, hj, hb⟩; have J3 := Lib.hid hj; have HB3 := Lib.hid hb; have B3 := Lib.hid (B2.out.trans (hb.mono (by simp; omega))); have A3 := Lib.hid (A2.out.butJ hb (by omega)); have D3 := Lib.hid (D2.out.butJ hb (by omega)); obtain ⟨a0, a1, a2, a3, a4, a5, a6, a7, a8, a9⟩ := A3.out.parts; have al := A3.out.lt; have af := A3.out.free; obtain ⟨d0, d1, d2, d3, d4, d5, d6, d7, d8, d9⟩ := D3.out.parts; have he := HE.out _ _ _ _ _ _ _ HQ.out; have J3b := J3.out; obtain ⟨SR, hSR⟩ : ∃ S, str (jskip r) = S := ⟨_, rfl⟩; have n1 : SR.toList.isEmpty = false := (by rw [← hSR, str_toList]; cases hh : jskip r with | nil => exact absurd hh he | cons c t => rfl); have n2 : ¬ SR.toList = [] := (by rw [← hSR, str_toList]; exact he); have n3 : (SR.toList == []) = false := (by rw [beq_eq_false_iff_ne]; exact n2); rw [hSR] at J3b; obtain ⟨p0, p1, p2, q0, q1, q2⟩ := J3b.parts; clear hj hb)))
  refine wp_region_held_drew (S := (fun w' => w'.cell? ⟨b, 0, none⟩ = some (.string SR) ∧ w'.cell? ⟨w1.heap.size, 0, none⟩ = some (.int .i64 o.kind) ∧ w'.cell? ⟨w1.heap.size, 1, none⟩ = some (.bool o.g) ∧ w'.cell? ⟨w1.heap.size, 2, none⟩ = some (.int .u64 (lb 0 o.x)) ∧ w'.cell? ⟨w1.heap.size, 3, none⟩ = some (.int .u64 (lb 1 o.x)) ∧ w'.cell? ⟨w1.heap.size, 4, none⟩ = some (.int .u64 (lb 2 o.x)) ∧ w'.cell? ⟨w1.heap.size, 5, none⟩ = some (.int .u64 (lb 3 o.x)) ∧ w'.cell? ⟨w1.heap.size, 6, none⟩ = some (.int .u64 o.bits) ∧ w'.cell? ⟨w1.heap.size, 7, none⟩ = some (.string o.text) ∧ w'.cell? ⟨w1.heap.size, 8, none⟩ = some (.slice o.la kids.length o.lcap) ∧ w'.cell? ⟨w1.heap.size, 9, none⟩ = some (.slice o.ka o.keys.length o.kcap))) (by kernel_rfl) (by (refine ⟨by (exact (Jr.parts (s := SR) (lg := lg2) (un := un2) (by (repeat (first | (with_reducible exact J3b) | (with_reducible refine Jr.drewR ?_) | (with_reducible refine Jr.set ?_ (by omega) _ _))); done)).1), ?_⟩; (refine Row10.parts ?_; (repeat (first | (with_reducible exact D3.out) | (with_reducible refine Row10.drew ?_) | (with_reducible refine Row10.set ?_ (by omega) _))); done))) (fun hHeld => ?_)
  refine wpAnyH_take (i := 0) (v := ?_) rfl (by kernel_rfl) (by kernel_rfl) (by kernel_rfl) (fun _ _ _ h => h) (Or.inl ⟨by rfl, fun w' hSw => ?_⟩) hHeld ?_
  rotate_left
  focus (dsimp only at hSw; obtain ⟨p0, d0, d1, d2, d3, d4, d5, d6, d7, d8, d9⟩ := hSw; go_simp <;> with_reducible rfl)
  try simp only [Act.put, List.getElem_toArray, List.getElem_cons_succ, List.getElem_cons_zero, List.setIfInBounds_toArray, List.set_cons_zero, List.set_cons_succ]
  refine wpAnyH_take (i := 1) (v := ?_) rfl (by kernel_rfl) (by kernel_rfl) (by kernel_rfl) (fun _ _ _ h => h) (Or.inl ⟨by rfl, fun w' hSw => ?_⟩) hHeld ?_
  rotate_left
  focus (dsimp only at hSw; obtain ⟨p0, d0, d1, d2, d3, d4, d5, d6, d7, d8, d9⟩ := hSw; go_simp <;> with_reducible rfl)
  try simp only [Act.put, List.getElem_toArray, List.getElem_cons_succ, List.getElem_cons_zero, List.setIfInBounds_toArray, List.set_cons_zero, List.set_cons_succ]
  refine wpAnyH_take (i := 2) (v := ?_) rfl (by kernel_rfl) (by kernel_rfl) (by kernel_rfl) (fun _ _ _ h => h) (Or.inl ⟨by rfl, fun w' hSw => ?_⟩) hHeld ?_
  rotate_left
  focus (dsimp only at hSw; obtain ⟨p0, d0, d1, d2, d3, d4, d5, d6, d7, d8, d9⟩ := hSw; go_simp <;> with_reducible rfl)
  try simp only [Act.put, List.getElem_toArray, List.getElem_cons_succ, List.getElem_cons_zero, List.setIfInBounds_toArray, List.set_cons_zero, List.set_cons_succ]
  refine wpAnyH_take (i := 3) (v := ?_) rfl (by kernel_rfl) (by kernel_rfl) (by kernel_rfl) (fun _ _ _ h => h) (Or.inl ⟨by rfl, fun w' hSw => ?_⟩) hHeld ?_
  rotate_left
  focus (dsimp only at hSw; obtain ⟨p0, d0, d1, d2, d3, d4, d5, d6, d7, d8, d9⟩ := hSw; go_simp <;> with_reducible rfl)
  try simp only [Act.put, List.getElem_toArray, List.getElem_cons_succ, List.getElem_cons_zero, List.setIfInBounds_toArray, List.set_cons_zero, List.set_cons_succ]
  refine wpAnyH_take (i := 4) (v := ?_) rfl (by kernel_rfl) (by kernel_rfl) (by kernel_rfl) (fun _ _ _ h => h) (Or.inl ⟨by rfl, fun w' hSw => ?_⟩) hHeld ?_
  rotate_left
  focus (dsimp only at hSw; obtain ⟨p0, d0, d1, d2, d3, d4, d5, d6, d7, d8, d9⟩ := hSw; go_simp <;> with_reducible rfl)
  try simp only [Act.put, List.getElem_toArray, List.getElem_cons_succ, List.getElem_cons_zero, List.setIfInBounds_toArray, List.set_cons_zero, List.set_cons_succ]
  refine wpAnyH_take (i := 5) (v := ?_) rfl (by kernel_rfl) (by kernel_rfl) (by kernel_rfl) (fun _ _ _ h => h) (Or.inl ⟨by rfl, fun w' hSw => ?_⟩) hHeld ?_
  rotate_left
  focus (dsimp only at hSw; obtain ⟨p0, d0, d1, d2, d3, d4, d5, d6, d7, d8, d9⟩ := hSw; go_simp <;> with_reducible rfl)
  try simp only [Act.put, List.getElem_toArray, List.getElem_cons_succ, List.getElem_cons_zero, List.setIfInBounds_toArray, List.set_cons_zero, List.set_cons_succ]
  refine wpAnyH_take (i := 6) (v := ?_) rfl (by kernel_rfl) (by kernel_rfl) (by kernel_rfl) (fun _ _ _ h => h) (Or.inl ⟨by rfl, fun w' hSw => ?_⟩) hHeld ?_
  rotate_left
  focus (dsimp only at hSw; obtain ⟨p0, d0, d1, d2, d3, d4, d5, d6, d7, d8, d9⟩ := hSw; go_simp <;> with_reducible rfl)
  try simp only [Act.put, List.getElem_toArray, List.getElem_cons_succ, List.getElem_cons_zero, List.setIfInBounds_toArray, List.set_cons_zero, List.set_cons_succ]
  refine wpAnyH_take (i := 7) (v := ?_) rfl (by kernel_rfl) (by kernel_rfl) (by kernel_rfl) (fun _ _ _ h => h) (Or.inl ⟨by rfl, fun w' hSw => ?_⟩) hHeld ?_
  rotate_left
  focus (dsimp only at hSw; obtain ⟨p0, d0, d1, d2, d3, d4, d5, d6, d7, d8, d9⟩ := hSw; go_simp <;> with_reducible rfl)
  try simp only [Act.put, List.getElem_toArray, List.getElem_cons_succ, List.getElem_cons_zero, List.setIfInBounds_toArray, List.set_cons_zero, List.set_cons_succ]
  refine wpAnyH_take (i := 8) (v := ?_) rfl (by kernel_rfl) (by kernel_rfl) (by kernel_rfl) (fun _ _ _ h => h) (Or.inl ⟨by rfl, fun w' hSw => ?_⟩) hHeld ?_
  rotate_left
  focus (dsimp only at hSw; obtain ⟨p0, d0, d1, d2, d3, d4, d5, d6, d7, d8, d9⟩ := hSw; go_simp <;> with_reducible rfl)
  try simp only [Act.put, List.getElem_toArray, List.getElem_cons_succ, List.getElem_cons_zero, List.setIfInBounds_toArray, List.set_cons_zero, List.set_cons_succ]
  refine wpAnyH_ready (rs := [9]) (by kernel_rfl) (by simp) ?_
  refine AllReadyH.cons rfl (fun K hK => ?_) AllReadyH.nil
  go_simp
  refine hK.out _ _ ?_ (fun hHeld => ?_)
  · (refine ⟨by (exact (Jr.parts (s := SR) (lg := lg2) (un := un2) (by (repeat (first | (with_reducible exact J3b) | (with_reducible refine Jr.drewR ?_) | (with_reducible refine Jr.set ?_ (by omega) _ _))); done)).1), ?_⟩; (refine Row10.parts ?_; (repeat (first | (with_reducible exact D3.out) | (with_reducible refine Row10.drew ?_) | (with_reducible refine Row10.set ?_ (by omega) _))); done))
  clear hK K
  try simp only [Act.put, List.getElem_toArray, List.getElem_cons_succ, List.getElem_cons_zero, List.setIfInBounds_toArray, List.set_cons_zero, List.set_cons_succ]
  refine wpAnyH_take (i := 10) (v := ?_) rfl (by kernel_rfl) (by kernel_rfl) (by kernel_rfl) (fun _ _ _ h => h) (Or.inl ⟨by rfl, fun w' hSw => ?_⟩) hHeld ?_
  rotate_left
  focus (dsimp only at hSw; obtain ⟨p0, d0, d1, d2, d3, d4, d5, d6, d7, d8, d9⟩ := hSw; go_simp <;> with_reducible rfl)
  try simp only [Act.put, List.getElem_toArray, List.getElem_cons_succ, List.getElem_cons_zero, List.setIfInBounds_toArray, List.set_cons_zero, List.set_cons_succ]
  refine wpAnyH_done (by kernel_rfl) ?_ _
  go_wp2
  obtain ⟨z0, z1, z2, z3, z4, z5, z6, z7, z8, z9⟩ := (Row10.drew (A3.out.set10 (.int .i64 o.kind) (.bool o.g) (.int .u64 (lb 0 o.x)) (.int .u64 (lb 1 o.x)) (.int .u64 (lb 2 o.x)) (.int .u64 (lb 3 o.x)) (.int .u64 o.bits) (.string o.text) (.slice o.la kids.length o.lcap) (.slice o.ka o.keys.length o.kcap))).parts
  refine bodyPost_ret (v := .tuple #[V10 o.kind o.g (lb 0 o.x) (lb 1 o.x) (lb 2 o.x) (lb 3 o.x) o.bits o.text o.la kids.length o.lcap o.ka o.keys.length o.kcap, .bool false]) (by simp [results, Tryz.results11, go_sem, z0, z1, z2, z3, z4, z5, z6, z7, z8, z9]) rfl ?_
  exact ⟨o, kids, r, lg2, un2, _, w1, rfl, HQ.out, B0.out, Jr.drewR (J3.out.set10 (by omega) _ _ _ _ _ _ _ _ _ _), But.drewJ (B3.out.set10 (Nat.le_refl _) _ _ _ _ _ _ _ _ _ _), by simp, ButS.drewR (((ButS.below (bal (Below.refl _ w1) (.cells #[.int .i64 o.kind, .bool o.g, .int .u64 (lb 0 o.x), .int .u64 (lb 1 o.x), .int .u64 (lb 2 o.x), .int .u64 (lb 3 o.x), .int .u64 o.bits, .string o.text, .slice o.la kids.length o.lcap, .slice o.ka o.keys.length o.kcap] 32))).trans (ButS.but HB3.out (Or.inr rfl))).trans (ButS.set10 (S := fun k => k = w.heap.size ∨ k = b) w3 (c := w.heap.size) (Or.inl rfl) _ _ _ _ _ _ _ _ _ _))⟩
end Go.Proofs.YtebfggiodhaahaaGreatDoor
end
section
namespace Go.Proofs.YtebfggiodhaahaaGreatDoor
open Go.RowKit Go.Shelf Go.Maps Go.Sort
set_option linter.unusedVariables false

set_option maxRecDepth 100000 in
set_option maxHeartbeats 2000000 in
theorem rv_txtN (l J : List UInt8) (hl : l.length ≤ 60000000000000) (hJ : jskip l = J) (b : Nat) (lg un : Bool) (w : World) (h : Jr w b (str l) lg un) (r : List UInt8) (hr : J = [34] ++ r) (hno : ∀ P ∈ ([[110, 117, 108, 108], [102, 97, 108, 115, 101], [116, 114, 117, 101]] : List (List UInt8)), Lib.hasPrefix J P = false) (U : ByteArray)
    (kt : ∀ W, Jr W b (str r) lg un → Calls Tryz.prog 38 #[.pointer (some ⟨b, 0, none⟩)] W fun e w' => e = .returned (.tuple #[.string U, .bool false]) ∧ (∃ s, Jr w' b s lg un) ∧ But W.heap.size b W w') :
    Calls Tryz.prog 17 #[.pointer (some ⟨b, 0, none⟩)] w fun e w' => e = .returned (.tuple #[V10 5 false 0 0 0 0 0 U none 0 0 none 0 0, .bool false]) ∧ (∃ s, Jr w' b s lg un) ∧ But w.heap.size b w w' := by
  have hJJ : jskip J = J := by rw [← hJ]; exact jskip_id l
  have hlJ : J.length ≤ 60000000000000 := by rw [← hJ]; have := jskip_len l; omega
  have hbw := h.lt
  have K0 : Hid (∀ W, Jr W b (str l) lg un → Calls Tryz.prog 37 #[.pointer (some ⟨b, 0, none⟩), .string ⟨#[110, 117, 108, 108]⟩] W fun e w' => e = .returned (.bool false) ∧ Jr w' b (str J) lg un ∧ But W.heap.size b W w') := Lib.hid (fun W hW => sgn_no l J hJ ⟨#[110, 117, 108, 108]⟩ (by omega) b lg un W hW (hno _ (by simp)))
  have K1 : Hid (∀ W, Jr W b (str J) lg un → Calls Tryz.prog 37 #[.pointer (some ⟨b, 0, none⟩), .string ⟨#[102, 97, 108, 115, 101]⟩] W fun e w' => e = .returned (.bool false) ∧ Jr w' b (str J) lg un ∧ But W.heap.size b W w') := Lib.hid (fun W hW => sgn_no J J hJJ ⟨#[102, 97, 108, 115, 101]⟩ (by omega) b lg un W hW (hno _ (by simp)))
  have K2 : Hid (∀ W, Jr W b (str J) lg un → Calls Tryz.prog 37 #[.pointer (some ⟨b, 0, none⟩), .string ⟨#[116, 114, 117, 101]⟩] W fun e w' => e = .returned (.bool false) ∧ Jr w' b (str J) lg un ∧ But W.heap.size b W w') := Lib.hid (fun W hW => sgn_no J J hJJ ⟨#[116, 114, 117, 101]⟩ (by omega) b lg un W hW (hno _ (by simp)))
  have K3 : Hid (∀ W, Jr W b (str J) lg un → Calls Tryz.prog 37 #[.pointer (some ⟨b, 0, none⟩), .string ⟨#[34]⟩] W fun e w' => e = .returned (.bool true) ∧ Jr w' b (str r) lg un ∧ But W.heap.size b W w') := Lib.hid (fun W hW => sgn_yes J J hJJ ⟨#[34]⟩ (by omega) b lg un W hW r hr)
  have KT := Lib.hid kt
  have HJ0 := Lib.hid (h.alloc (.cells #[.int .i64 0, .bool false, .int .u64 0, .int .u64 0, .int .u64 0, .int .u64 0, .int .u64 0, .string ⟨#[]⟩, .slice none 0 0, .slice none 0 0] 32))
  have B0 : Hid (But w.heap.size b w (w.alloc (.cells #[.int .i64 0, .bool false, .int .u64 0, .int .u64 0, .int .u64 0, .int .u64 0, .int .u64 0, .string ⟨#[]⟩, .slice none 0 0, .slice none 0 0] 32))) := Lib.hid (But.of (bal (Below.refl _ _) _))
  have R0 := Lib.hid (Row10.new w (.int .i64 0) (.bool false) (.int .u64 0) (.int .u64 0) (.int .u64 0) (.int .u64 0) (.int .u64 0) (.string ⟨#[]⟩) (.slice none 0 0) (.slice none 0 0))
  clear h hno hr hJ hJJ kt
  go_enter Tryz.func17, Tryz.ntmps17
  go_wp2_with (first
    | (go_at_call 37; ((with_reducible refine (K0.out _ HJ0.out).mono ?_); rintro e w1 ⟨rfl, hj0, hb0⟩; have J1 := Lib.hid hj0; have B1 := Lib.hid (B0.out.trans (hb0.mono (by simp))); have R1 := Lib.hid (R0.out.butJ hb0 (by omega)); clear hj0 hb0))
    | (go_at_call 37; ((with_reducible refine (K1.out _ J1.out).mono ?_); rintro e w2 ⟨rfl, hj1, hb1⟩; have J2 := Lib.hid hj1; have B2 := Lib.hid (B1.out.trans (hb1.mono (B1.out.size))); have R2 := Lib.hid (R1.out.butJ hb1 (by omega)); clear hj1 hb1))
    | (go_at_call 37; ((with_reducible refine (K2.out _ J2.out).mono ?_); rintro e w3 ⟨rfl, hj2, hb2⟩; have J3 := Lib.hid hj2; have B3 := Lib.hid (B2.out.trans (hb2.mono (B2.out.size))); have R3 := Lib.hid (R2.out.butJ hb2 (by omega)); clear hj2 hb2))
    | (go_at_call 37; ((with_reducible refine (K3.out _ J3.out).mono ?_); rintro e w4 ⟨rfl, hj3, hb3⟩; have J4 := Lib.hid hj3; have B4 := Lib.hid (B3.out.trans (hb3.mono (B3.out.size))); have R4 := Lib.hid (R3.out.butJ hb3 (by omega)); clear hj3 hb3))
    | (go_at_call 38; ((with_reducible refine (KT.out _ J4.out).mono ?_); rintro e w5 ⟨rfl, ⟨s5, hj4⟩, hb4⟩; have J5 := Lib.hid hj4; have B5 := Lib.hid (B4.out.trans (hb4.mono (B4.out.size))); have R5 := Lib.hid (R4.out.butJ hb4 (by omega)); obtain ⟨c0, c1, c2, c3, c4, c5, c6, c7, c8, c9⟩ := R5.out.parts; have rl := R5.out.lt; have rf := R5.out.free; clear hj4 hb4)))
  obtain ⟨z0, z1, z2, z3, z4, z5, z6, z7, z8, z9⟩ := (R5.out.set10 (.int .i64 5) (.bool false) (.int .u64 0) (.int .u64 0) (.int .u64 0) (.int .u64 0) (.int .u64 0) (.string U) (.slice none 0 0) (.slice none 0 0)).parts
  exact bodyPost_ret (v := .tuple #[V10 5 false 0 0 0 0 0 U none 0 0 none 0 0, .bool false]) (by simp [results, Tryz.results17, go_sem, z0, z1, z2, z3, z4, z5, z6, z7, z8, z9]) rfl ⟨rfl, ⟨_, J5.out.set10 (by omega) _ _ _ _ _ _ _ _ _ _⟩, B5.out.set10 (Nat.le_refl _) _ _ _ _ _ _ _ _ _ _⟩
set_option maxRecDepth 100000 in
set_option maxHeartbeats 4000000 in
/-- An array whose first element is none. -/
theorem rarr_bad (w0 : World) (b : Nat) (hb0 : w0.heap.size ≤ b) (t0 : List UInt8) (ht0 : t0.length ≤ 50000000000000) (hne : Lib.hasPrefix (jskip t0) [93] = false)
    (hv : ∀ lg un W, Below w0.heap.size w0 W → Jr W b (str (jskip t0)) lg un → Calls Tryz.prog 17 #[.pointer (some ⟨b, 0, none⟩)] W fun e w' => ∃ (o : Own) (kids : List VT) (s : ByteArray) (lg2 un2 : Bool), e = .returned (.tuple #[V10 o.kind o.g (lb 0 o.x) (lb 1 o.x) (lb 2 o.x) (lb 3 o.x) o.bits o.text o.la kids.length o.lcap o.ka o.keys.length o.kcap, .bool false]) ∧ Jr w' b s lg2 un2 ∧ But W.heap.size b W w') (lg un : Bool) (w : World) (hw : Below w0.heap.size w0 w) (h : Jr w b (str t0) lg un) :
    Calls Tryz.prog 39 #[.pointer (some ⟨b, 0, none⟩)] w fun e w' => ∃ (o : Own) (kids : List VT) (s : ByteArray) (lg2 un2 : Bool), e = .returned (.tuple #[V10 o.kind o.g (lb 0 o.x) (lb 1 o.x) (lb 2 o.x) (lb 3 o.x) o.bits o.text o.la kids.length o.lcap o.ka o.keys.length o.kcap, .bool false]) ∧ Jr w' b s lg2 un2 ∧ But w.heap.size b w w' := by
  have HW := Lib.hid hw
  have hjl := jskip_len t0
  have KS : Hid (∀ W, Jr W b (str t0) lg un → Calls Tryz.prog 37 #[.pointer (some ⟨b, 0, none⟩), .string ⟨#[93]⟩] W fun e w' => e = .returned (.bool false) ∧ Jr w' b (str (jskip t0)) lg un ∧ But W.heap.size b W w') := Lib.hid (fun W hW => sgn_no t0 _ rfl ⟨#[93]⟩ (by omega) b lg un W hW hne)
  have KV := Lib.hid hv
  have hbw := h.lt
  have J0 : Hid (Jr ((w.alloc (.cells #[.int .i64 0, .bool false, .int .u64 0, .int .u64 0, .int .u64 0, .int .u64 0, .int .u64 0, .string ⟨#[]⟩, .slice none 0 0, .slice none 0 0] 32)).alloc (.cells #[.int .i64 7, .bool false, .int .u64 0, .int .u64 0, .int .u64 0, .int .u64 0, .int .u64 0, .string ⟨#[]⟩, .slice none 0 0, .slice none 0 0] 32)) b (str t0) lg un) := Lib.hid ((h.alloc _).alloc _)
  have B0 : Hid (But w.heap.size b w ((w.alloc (.cells #[.int .i64 0, .bool false, .int .u64 0, .int .u64 0, .int .u64 0, .int .u64 0, .int .u64 0, .string ⟨#[]⟩, .slice none 0 0, .slice none 0 0] 32)).alloc (.cells #[.int .i64 7, .bool false, .int .u64 0, .int .u64 0, .int .u64 0, .int .u64 0, .int .u64 0, .string ⟨#[]⟩, .slice none 0 0, .slice none 0 0] 32))) := Lib.hid (But.of (bal (bal (Below.refl _ _) _) _))
  have A0 : Hid (Row10 ((w.alloc (.cells #[.int .i64 0, .bool false, .int .u64 0, .int .u64 0, .int .u64 0, .int .u64 0, .int .u64 0, .string ⟨#[]⟩, .slice none 0 0, .slice none 0 0] 32)).alloc (.cells #[.int .i64 7, .bool false, .int .u64 0, .int .u64 0, .int .u64 0, .int .u64 0, .int .u64 0, .string ⟨#[]⟩, .slice none 0 0, .slice none 0 0] 32)) w.heap.size (.int .i64 0) (.bool false) (.int .u64 0) (.int .u64 0) (.int .u64 0) (.int .u64 0) (.int .u64 0) (.string ⟨#[]⟩) (.slice none 0 0) (.slice none 0 0)) := Lib.hid ((Row10.new w (.int .i64 0) (.bool false) (.int .u64 0) (.int .u64 0) (.int .u64 0) (.int .u64 0) (.int .u64 0) (.string ⟨#[]⟩) (.slice none 0 0) (.slice none 0 0)).alloc _)
  clear h hne hv hw
  go_enter Tryz.func39, Tryz.ntmps39
  go_wp2_with (go_at_call 37; ((with_reducible refine (KS.out _ J0.out).mono ?_); rintro e w1 ⟨rfl, hj, hb⟩; have J1 := Lib.hid hj; have B1 := Lib.hid (B0.out.trans (hb.mono (by simp; omega))); have A1 := Lib.hid (A0.out.butJ hb (by omega)); clear hj hb))
  go_loopw [5, 6] (fun _ _ wr => Hid (Jr wr b (str (jskip t0)) lg un) ∧ Hid (Row10 wr w.heap.size (.int .i64 0) (.bool false) (.int .u64 0) (.int .u64 0) (.int .u64 0) (.int .u64 0) (.int .u64 0) (.string ⟨#[]⟩) (.slice none 0 0) (.slice none 0 0)) ∧ Hid (But w.heap.size b w wr)) (fun _ _ wr => restJ wr b)
  case atStart => exact ⟨J1, A1, B1⟩
  case round =>
    obtain ⟨HJ, HA, HB⟩ := hrel
    clear J1 B1 A1
    rename World => wr
    have sA := HA.out.lt
    go_wp2_with (go_at_call 17; ((with_reducible refine (KV.out lg un _ (below_but hb0 HW.out HB.out) HJ.out).mono ?_); rintro e w4 ⟨o, kids, s4, lg4, un4, rfl, hj, hb⟩; have J4 := Lib.hid hj; have B4 := Lib.hid (HB.out.trans (hb.mono HB.out.size)); have A4 := Lib.hid (HA.out.butJ hb (by omega)); obtain ⟨a0, a1, a2, a3, a4, a5, a6, a7, a8, a9⟩ := A4.out.parts; have al := A4.out.lt; have af := A4.out.free; clear hj hb))
    obtain ⟨z0, z1, z2, z3, z4, z5, z6, z7, z8, z9⟩ := ((A4.out.set10 (.int .i64 0) (.bool false) (.int .u64 0) (.int .u64 0) (.int .u64 0) (.int .u64 0) (.int .u64 0) (.string ⟨#[]⟩) (.slice none 0 0) (.slice none 0 0)).alloc (.cells #[.int .i64 o.kind, .bool o.g, .int .u64 (lb 0 o.x), .int .u64 (lb 1 o.x), .int .u64 (lb 2 o.x), .int .u64 (lb 3 o.x), .int .u64 o.bits, .string o.text, .slice o.la kids.length o.lcap, .slice o.ka o.keys.length o.kcap] 32)).parts
    refine bodyPost_ret (v := .tuple #[V10 0 false 0 0 0 0 0 ⟨#[]⟩ none 0 0 none 0 0, .bool false]) (by simp [results, Tryz.results39, go_sem, z0, z1, z2, z3, z4, z5, z6, z7, z8, z9]) rfl ?_
    have B5 := B4.out.set10 (c := w.heap.size) (Nat.le_refl _) (.int .i64 0) (.bool false) (.int .u64 0) (.int .u64 0) (.int .u64 0) (.int .u64 0) (.int .u64 0) (.string ⟨#[]⟩) (.slice none 0 0) (.slice none 0 0)
    exact ⟨⟨0, false, 0, 0, ⟨#[]⟩, none, 0, none, 0, []⟩, [], _, _, _, by simp only [lb_zero]; rfl, (J4.out.set10 (by omega) _ _ _ _ _ _ _ _ _ _).alloc _, B5.trans (But.ofB (bal (Below.refl _ _) _) B5.size)⟩
set_option maxRecDepth 100000 in
set_option maxHeartbeats 2000000 in
/-- No name. -/
theorem rname_no (l : List UInt8) (hl : l.length ≤ 60000000000000) (hq : Lib.hasPrefix (jskip l) [34] = false) (b : Nat) (lg un : Bool) (w : World) (h : Jr w b (str l) lg un) :
    Calls Tryz.prog 76 #[.pointer (some ⟨b, 0, none⟩)] w fun e w' => e = .returned (.tuple #[.string ⟨#[]⟩, .bool false]) ∧ Jr w' b (str (jskip l)) lg un ∧ But w.heap.size b w w' := by
  have KA : Hid (∀ W, Jr W b (str l) lg un → Calls Tryz.prog 37 #[.pointer (some ⟨b, 0, none⟩), .string ⟨#[34]⟩] W fun e w' => e = .returned (.bool false) ∧ Jr w' b (str (jskip l)) lg un ∧ But W.heap.size b W w') := Lib.hid (fun W hW => sgn_no l _ rfl ⟨#[34]⟩ (by omega) b lg un W hW hq)
  have J0 := Lib.hid h
  clear h hq
  go_enter Tryz.func76, Tryz.ntmps76
  go_wp2_with (go_at_call 37; ((with_reducible refine (KA.out _ J0.out).mono ?_); rintro e w1 ⟨rfl, hj, hb⟩; have J1 := Lib.hid hj; have B1 := Lib.hid hb; clear hj hb))
  go_ret2
  exact ⟨rfl, J1.out, B1.out⟩
set_option maxRecDepth 100000 in
set_option maxHeartbeats 4000000 in
/-- An object whose first name is none. -/
theorem robj_bad (l : List UInt8) (hl : l.length ≤ 50000000000000) (hne : Lib.hasPrefix (jskip l) [125] = false) (hq : Lib.hasPrefix (jskip l) [34] = false) (b : Nat) (lg un : Bool) (w : World) (h : Jr w b (str l) lg un) :
    Calls Tryz.prog 40 #[.pointer (some ⟨b, 0, none⟩)] w fun e w' => ∃ (o : Own) (kids : List VT) (s : ByteArray) (lg2 un2 : Bool), e = .returned (.tuple #[V10 o.kind o.g (lb 0 o.x) (lb 1 o.x) (lb 2 o.x) (lb 3 o.x) o.bits o.text o.la kids.length o.lcap o.ka o.keys.length o.kcap, .bool false]) ∧ Jr w' b s lg2 un2 ∧ But w.heap.size b w w' := by
  have hjl := jskip_len l
  have KS : Hid (∀ W, Jr W b (str l) lg un → Calls Tryz.prog 37 #[.pointer (some ⟨b, 0, none⟩), .string ⟨#[125]⟩] W fun e w' => e = .returned (.bool false) ∧ Jr w' b (str (jskip l)) lg un ∧ But W.heap.size b W w') := Lib.hid (fun W hW => sgn_no l _ rfl ⟨#[125]⟩ (by omega) b lg un W hW hne)
  have KN : Hid (∀ W, Jr W b (str (jskip l)) lg un → Calls Tryz.prog 76 #[.pointer (some ⟨b, 0, none⟩)] W fun e w' => e = .returned (.tuple #[.string ⟨#[]⟩, .bool false]) ∧ Jr w' b (str (jskip (jskip l))) lg un ∧ But W.heap.size b W w') := Lib.hid (fun W hW => rname_no (jskip l) (by omega) (by rw [jskip_id]; exact hq) b lg un W hW)
  have hbw := h.lt
  have J0 : Hid (Jr ((w.alloc (.cells #[.int .i64 0, .bool false, .int .u64 0, .int .u64 0, .int .u64 0, .int .u64 0, .int .u64 0, .string ⟨#[]⟩, .slice none 0 0, .slice none 0 0] 32)).alloc (.map #[] 0)) b (str l) lg un) := Lib.hid ((h.alloc _).alloc _)
  have B0 : Hid (But w.heap.size b w ((w.alloc (.cells #[.int .i64 0, .bool false, .int .u64 0, .int .u64 0, .int .u64 0, .int .u64 0, .int .u64 0, .string ⟨#[]⟩, .slice none 0 0, .slice none 0 0] 32)).alloc (.map #[] 0))) := Lib.hid (But.of (bal (bal (Below.refl _ _) _) _))
  have A0 : Hid (Row10 ((w.alloc (.cells #[.int .i64 0, .bool false, .int .u64 0, .int .u64 0, .int .u64 0, .int .u64 0, .int .u64 0, .string ⟨#[]⟩, .slice none 0 0, .slice none 0 0] 32)).alloc (.map #[] 0)) w.heap.size (.int .i64 0) (.bool false) (.int .u64 0) (.int .u64 0) (.int .u64 0) (.int .u64 0) (.int .u64 0) (.string ⟨#[]⟩) (.slice none 0 0) (.slice none 0 0)) := Lib.hid ((Row10.new w (.int .i64 0) (.bool false) (.int .u64 0) (.int .u64 0) (.int .u64 0) (.int .u64 0) (.int .u64 0) (.string ⟨#[]⟩) (.slice none 0 0) (.slice none 0 0)).alloc _)
  have hmm := @run_makeMap Tryz.prog
  clear h hne hq
  go_enter Tryz.func40, Tryz.ntmps40
  go_wp2_with (go_at_call 37; ((with_reducible refine (KS.out _ J0.out).mono ?_); rintro e w1 ⟨rfl, hj, hb⟩; have J1 := Lib.hid hj; have B1 := Lib.hid (B0.out.trans (hb.mono (by simp; omega))); have A1 := Lib.hid (A0.out.butJ hb (by omega)); clear hj hb))
  go_loopw [5, 6, 7, 8] (fun _ _ _ _ wr => Hid (Jr wr b (str (jskip l)) lg un) ∧ Hid (Row10 wr w.heap.size (.int .i64 0) (.bool false) (.int .u64 0) (.int .u64 0) (.int .u64 0) (.int .u64 0) (.int .u64 0) (.string ⟨#[]⟩) (.slice none 0 0) (.slice none 0 0)) ∧ Hid (But w.heap.size b w wr)) (fun _ _ _ _ wr => restJ wr b)
  case atStart => exact ⟨J1, A1, B1⟩
  case round =>
    obtain ⟨HJ, HA, HB⟩ := hrel
    clear J1 B1 A1
    rename World => wr
    have sA := HA.out.lt
    go_wp2_with (go_at_call 76; ((with_reducible refine (KN.out _ HJ.out).mono ?_); rintro e w4 ⟨rfl, hj, hb⟩; have J4 := Lib.hid hj; have B4 := Lib.hid (HB.out.trans (hb.mono HB.out.size)); have A4 := Lib.hid (HA.out.butJ hb (by omega)); obtain ⟨a0, a1, a2, a3, a4, a5, a6, a7, a8, a9⟩ := A4.out.parts; have al := A4.out.lt; have af := A4.out.free; clear hj hb))
    obtain ⟨z0, z1, z2, z3, z4, z5, z6, z7, z8, z9⟩ := (A4.out.set10 (.int .i64 0) (.bool false) (.int .u64 0) (.int .u64 0) (.int .u64 0) (.int .u64 0) (.int .u64 0) (.string ⟨#[]⟩) (.slice none 0 0) (.slice none 0 0)).parts
    refine bodyPost_ret (v := .tuple #[V10 0 false 0 0 0 0 0 ⟨#[]⟩ none 0 0 none 0 0, .bool false]) (by simp [results, Tryz.results40, go_sem, z0, z1, z2, z3, z4, z5, z6, z7, z8, z9]) rfl ?_
    exact ⟨⟨0, false, 0, 0, ⟨#[]⟩, none, 0, none, 0, []⟩, [], _, _, _, by simp only [lb_zero]; rfl, J4.out.set10 (by omega) _ _ _ _ _ _ _ _ _ _, B4.out.set10 (Nat.le_refl _) _ _ _ _ _ _ _ _ _ _⟩
end Go.Proofs.YtebfggiodhaahaaGreatDoor
end
section
namespace Go.Proofs.YtebfggiodhaahaaGreatDoor
open Go.RowKit Go.Shelf Go.Maps Go.Sort
set_option linter.unusedVariables false

/-- At l there is no value. -/
def VF (w0 : World) (b : Nat) (l : List UInt8) : Prop :=
  ∀ (lg un : Bool) (W : World), Below w0.heap.size w0 W → Jr W b (str l) lg un → Calls Tryz.prog 17 #[.pointer (some ⟨b, 0, none⟩)] W fun e w' => ∃ (o : Own) (kids : List VT) (s : ByteArray) (lg2 un2 : Bool), e = .returned (.tuple #[V10 o.kind o.g (lb 0 o.x) (lb 1 o.x) (lb 2 o.x) (lb 3 o.x) o.bits o.text o.la kids.length o.lcap o.ka o.keys.length o.kcap, .bool false]) ∧ Jr w' b s lg2 un2 ∧ But W.heap.size b W w'
def pres6 : List (List UInt8) := [[110, 117, 108, 108], [102, 97, 108, 115, 101], [116, 114, 117, 101], [34], [91], [123]]
theorem vf_word (w0 : World) (b : Nat) (hb0 : w0.heap.size ≤ b) (hT0 : Tb w0) (l : List UInt8) (hl : l.length ≤ 65536) (hs : jskip l = l) (hno : ∀ P ∈ pres6, Lib.hasPrefix l P = false) (hz : nsz l = 0) : VF w0 b l := by
  intro lg un W hB hJ
  refine (rv_num l l (by omega) hs b lg un W hJ hno (fun o kids ok X Y => ok = false) (fun W3 _ hB3 hJ3 => ?_)).mono ?_
  · refine (rnum_bad l (by omega) b lg un W3 hJ3 (tb_on hT0 (below_but hb0 hB hB3)) (by rw [hz, List.take_zero]; exact dpans_nil)).mono ?_
    rintro e w' ⟨he, hj, hb⟩
    exact ⟨⟨1, false, 0, 0, ⟨#[]⟩, none, 0, none, 0, []⟩, [], false, by rw [he]; rfl, rfl, ⟨_, _, _, hj⟩, hb⟩
  · rintro e w' ⟨o, kids, ok, W3, X, s, lg2, un2, he, hok, hB1, hB2, hX, hw', hb, hlt, hS⟩
    subst hok
    exact ⟨o, kids, _, _, _, he, hw', hb⟩
theorem vf_text (w0 : World) (b : Nat) (t : List UInt8) (ht : t.length ≤ 65536) (f : Nat) (hf : jtb f t = true) : VF w0 b (34 :: t) := by
  intro lg un W hB hJ
  refine (rv_txtN (34 :: t) (34 :: t) (by rw [List.length_cons]; omega) (skip_no (by decide)) b lg un W hJ t rfl (fun P hP => by
    simp only [List.mem_cons, List.not_mem_nil, or_false] at hP
    rcases hP with rfl | rfl | rfl <;> exact pre_no (by decide)) ⟨#[]⟩ (fun W2 hW2 => rtext_no f t (by omega) hf b lg un W2 hW2)).mono ?_
  rintro e w' ⟨he, ⟨s, hj⟩, hb⟩
  exact ⟨⟨5, false, 0, 0, ⟨#[]⟩, none, 0, none, 0, []⟩, [], s, lg, un, by rw [he]; simp only [lb_zero]; rfl, hj, hb⟩
theorem vf_arr (w0 : World) (b : Nat) (hb0 : w0.heap.size ≤ b) (t : List UInt8) (ht : t.length ≤ 65536)
    (ka : ∀ lg un W, Below w0.heap.size w0 W → Jr W b (str t) lg un → Calls Tryz.prog 39 #[.pointer (some ⟨b, 0, none⟩)] W fun e w' => ∃ (o : Own) (kids : List VT) (s : ByteArray) (lg2 un2 : Bool), e = .returned (.tuple #[V10 o.kind o.g (lb 0 o.x) (lb 1 o.x) (lb 2 o.x) (lb 3 o.x) o.bits o.text o.la kids.length o.lcap o.ka o.keys.length o.kcap, .bool false]) ∧ Jr w' b s lg2 un2 ∧ But W.heap.size b W w') : VF w0 b (91 :: t) := by
  intro lg un W hB hJ
  refine (rv_arr (91 :: t) (91 :: t) (by rw [List.length_cons]; omega) (skip_no (by decide)) b lg un W hJ t rfl (fun P hP => pre4 P hP _) (fun o kids ok X Y => ok = false) (fun W3 _ hB3 hJ3 => ?_)).mono ?_
  · refine (ka lg un W3 (below_but hb0 hB hB3) hJ3).mono ?_
    rintro e w' ⟨o, kids, s, lg2, un2, he, hj, hb⟩
    exact ⟨o, kids, false, he, rfl, ⟨_, _, _, hj⟩, hb⟩
  · rintro e w' ⟨o, kids, ok, W3, X, s, lg2, un2, he, hok, hB1, hB2, hX, hw', hb, hlt, hS⟩
    subst hok
    exact ⟨o, kids, _, _, _, he, hw', hb⟩
theorem vf_obj (w0 : World) (b : Nat) (hb0 : w0.heap.size ≤ b) (t : List UInt8) (ht : t.length ≤ 65536)
    (ko : ∀ lg un W, Below w0.heap.size w0 W → Jr W b (str t) lg un → Calls Tryz.prog 40 #[.pointer (some ⟨b, 0, none⟩)] W fun e w' => ∃ (o : Own) (kids : List VT) (s : ByteArray) (lg2 un2 : Bool), e = .returned (.tuple #[V10 o.kind o.g (lb 0 o.x) (lb 1 o.x) (lb 2 o.x) (lb 3 o.x) o.bits o.text o.la kids.length o.lcap o.ka o.keys.length o.kcap, .bool false]) ∧ Jr w' b s lg2 un2 ∧ But W.heap.size b W w') : VF w0 b (123 :: t) := by
  intro lg un W hB hJ
  refine (rv_obj (123 :: t) (123 :: t) (by rw [List.length_cons]; omega) (skip_no (by decide)) b lg un W hJ t rfl (fun P hP => pre5 P hP _) (fun o kids ok X Y => ok = false) (fun W3 _ hB3 hJ3 => ?_)).mono ?_
  · refine (ko lg un W3 (below_but hb0 hB hB3) hJ3).mono ?_
    rintro e w' ⟨o, kids, s, lg2, un2, he, hj, hb⟩
    exact ⟨o, kids, false, he, rfl, ⟨_, _, _, hj⟩, hb⟩
  · rintro e w' ⟨o, kids, ok, W3, X, s, lg2, un2, he, hok, hB1, hB2, hX, hw', hb, hlt, hS⟩
    subst hok
    exact ⟨o, kids, _, _, _, he, hw', hb⟩
theorem vf_nil (w0 : World) (b : Nat) (hb0 : w0.heap.size ≤ b) (hT0 : Tb w0) : VF w0 b [] :=
  vf_word w0 b hb0 hT0 [] (Nat.zero_le _) rfl (by decide) (by decide)
/-- Without its last byte there is no value, but of a number. -/
theorem vf_cut (w0 : World) (b : Nat) (hb0 : w0.heap.size ≤ b) (hT0 : Tb w0) (T : VT) (hw : hasT wrongT T = false) (hj : hasT notJsonT T = false) (hE : T.Every Wr) (h3 : T.o.kind ≠ 3) (h4 : T.o.kind ≠ 4) (hl : (jencT T).length ≤ 65536) : VF w0 b (jencT T).dropLast := by
  obtain ⟨o, kids⟩ := T
  rw [VT.o_mk] at h3 h4
  have ho : ownB o kids.length = true := by have := (hasT_false hw).1; unfold wrongT at this; simpa using this
  have hor : outB o kids.length = true ∧ restB o kids.length = true := by unfold ownB at ho; rwa [Bool.and_eq_true] at ho
  have hkid : ∀ t ∈ kids, Rd1 t := fun t ht => ⟨jx_enc t ((hasT_false hw).2 t ht) ((hasT_false hj).2 t ht) (hE.mem ht), jenc_head t ((hasT_false hw).2 t ht) ((hasT_false hj).2 t ht)⟩
  have hdl : (jencT (.mk o kids)).dropLast.length ≤ 65536 := by rw [List.length_dropLast]; omega
  rcases own_kind ho with h | h | h | h | h | h | h | h
  · rw [jencT_mk, jO_1 h]
    exact vf_word w0 b hb0 hT0 [110, 117, 108] (by decide) (by decide +kernel) (by decide +kernel) (by decide +kernel)
  · rw [jencT_mk, jO_2 h]
    by_cases hb : o.bits = 0
    · rw [if_pos hb]
      exact vf_word w0 b hb0 hT0 [102, 97, 108, 115] (by decide) (by decide +kernel) (by decide +kernel) (by decide +kernel)
    · rw [if_neg hb]
      exact vf_word w0 b hb0 hT0 [116, 114, 117] (by decide) (by decide +kernel) (by decide +kernel) (by decide +kernel)
  · exact absurd h h3
  · exact absurd h h4
  · rw [jencT_cut5 h] at hdl ⊢
    rw [List.length_cons] at hdl
    have hv : uval o.text.data.toList = true := by
      have h9 := hor.2
      unfold restB at h9
      rw [if_neg (by omega), if_neg (by omega), if_neg (by omega), if_neg (by omega), if_pos h] at h9
      exact h9
    obtain ⟨f, hf⟩ := jtb_text hv
    exact vf_text w0 b _ (by omega) f hf
  · exact absurd h (json_6 hj)
  · rw [jencT_cut7 h] at hdl ⊢
    rw [List.length_cons] at hdl
    cases kids with
    | nil =>
      refine vf_arr w0 b hb0 _ (by omega) (fun lg un W hB hJ => ?_)
      exact rarr_bad w0 b hb0 [] (Nat.zero_le _) rfl (fun lg un W2 hB2 hJ2 => vf_nil w0 b hb0 hT0 lg un W2 hB2 hJ2) lg un W hB hJ
    | cons T ks =>
      have hT := hkid T (by simp)
      rw [List.map_cons, jpcs_first, List.nil_append] at hdl ⊢
      refine vf_arr w0 b hb0 _ (by omega) (fun lg un W hB hJ => ?_)
      refine (rarrE false JX w0 b hb0 (jencT T ++ Gj (fun _ => []) 1 (ks.map jencT)) [] (er T :: ks.map er) false false (by omega) (by
        rw [hT.skip]
        obtain ⟨c, t, e, hc⟩ := hT.2
        rw [e]
        exact pre_no (hc.no 93 (by unfold HdB; decide))) (by rw [hT.skip]; exact jaex ks T 0 (fun t ht => hkid t ht)) (fun t T r1 l u ht hv => jx_any w0 b hb0 hT0 _ t T r1 l u (Nat.le_refl _) (by omega) hv) lg un W hB hJ).mono ?_
      rintro e w' ⟨o2, kids2, he, hI, hO, hE2, hj2, hb2⟩
      exact ⟨o2, kids2, _, _, _, he, hj2, hb2⟩
  · rw [jencT_cut8 h] at hdl ⊢
    rw [List.length_cons] at hdl
    obtain ⟨hlen, hnm⟩ := rest_8 h hor.2
    cases kids with
    | nil =>
      refine vf_obj w0 b hb0 _ (by omega) (fun lg un W hB hJ => ?_)
      exact robj_bad [] (Nat.zero_le _) rfl rfl b lg un W hJ
    | cons T ks =>
      have hT := hkid T (by simp)
      rw [List.length_cons] at hlen
      rw [List.map_cons, jpcs_first] at hdl ⊢
      have hs : jskip (jkey o.keys 0 ++ (jencT T ++ Gj (jkey o.keys) 1 (ks.map jencT))) = jkey o.keys 0 ++ (jencT T ++ Gj (jkey o.keys) 1 (ks.map jencT)) := skip_no (by decide)
      have hnd : ((((o.keys.getD 0 ⟨#[]⟩).data.toList, er T) :: ((o.keys.drop (0 + 1)).map fun s => s.data.toList).zip (ks.map er)).map Prod.fst).Nodup := by
        have hlt : 0 < o.keys.length := by omega
        have hd : o.keys = o.keys[0] :: o.keys.drop 1 := by
          have := List.drop_eq_getElem_cons (i := 0) (l := o.keys) hlt
          rwa [List.drop_zero] at this
        have hg : o.keys.getD 0 ⟨#[]⟩ = o.keys[0] := getD_at (List.getElem?_eq_getElem hlt)
        have h9 := rise_nodup (names_apart hnm)
        have e9 : (((o.keys.getD 0 ⟨#[]⟩).data.toList, er T) :: ((o.keys.drop (0 + 1)).map fun s => s.data.toList).zip (ks.map er)).map Prod.fst = o.keys.map fun s => s.data.toList := by
          rw [List.map_cons, List.map_fst_zip (by rw [List.length_map, List.length_map, List.length_drop]; omega), hg]
          conv => rhs; rw [hd]
          rfl
        rw [e9]
        exact h9
      refine vf_obj w0 b hb0 _ (by omega) (fun lg un W hB hJ => ?_)
      refine (robjE false JX w0 b hb0 (jkey o.keys 0 ++ (jencT T ++ Gj (jkey o.keys) 1 (ks.map jencT))) [] _ false false (by omega) (by rw [hs]; exact pre_no (by decide)) (by rw [hs]; exact joex o.keys hnm ks T 0 (by omega) (fun t ht => hkid t ht)) hnd (fun t T r1 l u ht hv => jx_any w0 b hb0 hT0 _ t T r1 l u (Nat.le_refl _) (by omega) hv) lg un W hB hJ).mono ?_
      rintro e w' ⟨o2, kids2, he, hI, hO, hE2, hj2, hb2⟩
      exact ⟨o2, kids2, _, _, _, he, hj2, hb2⟩
theorem jdec_vf (l : List UInt8) (hl : l.length ≤ 65536) (gg off cap N : Nat) (hN : l.length = N) (w : World) (hb : BytesAt w gg off l) (hv : ∀ b, w.heap.size ≤ b → VF w b l) : Calls Tryz.prog 6 #[.slice (some ⟨gg, off, none⟩) N cap] w fun e w' => e = .returned (.tuple #[V10 0 false 0 0 0 0 0 ⟨#[]⟩ none 0 0 none 0 0, .int .i64 3]) ∧ Below w.heap.size w w' := by
  refine jdec_no l hl gg off cap N hN w hb (fun W b hB hbb hJ => ?_)
  refine (rdoc_no l b false false W hJ (fun o kids r lg2 un2 X Y => True) (fun W2 hB2 hJ2 => ?_)).mono ?_
  · refine (hv b hbb false false W2 (below_but hbb hB hB2) hJ2).mono ?_
    rintro e w' ⟨o, kids, s, lg2, un2, he, hj, hb2⟩
    exact ⟨o, kids, s.data.toList, lg2, un2, he, trivial, by rw [str_of]; exact hj, hb2⟩
  · rintro e w' ⟨o, kids, r, lg2, un2, W2, X, he, _, hB1, hj, hb2, _⟩
    exact ⟨o, kids, _, _, _, he, hj, hb2⟩
section
variable (l : List UInt8) (hl : l.length ≤ 65536) (gg off cap N : Nat) (hN : l.length = N) (w : World) (hb : BytesAt w gg off l) (hT : Tb w)
include hl hN hb hT
/-- Something behind the value. -/
theorem jdecX_behind (T : VT) (r : List UInt8) (lg un : Bool) (hv : JX l T r lg un) (hr : jskip r ≠ []) : Calls Tryz.prog 6 #[.slice (some ⟨gg, off, none⟩) N cap] w fun e w' => e = .returned (.tuple #[V10 0 false 0 0 0 0 0 ⟨#[]⟩ none 0 0 none 0 0, .int .i64 3]) ∧ Below w.heap.size w w' := by
  refine jdec_no l hl gg off cap N hN w hb (fun W b hB hbb hJ => ?_)
  refine (rdoc_rest l b false false W hJ (fun o kids r2 lg2 un2 X Y => r2 = r) (fun o kids r2 lg2 un2 X Y hQ => by rw [hQ]; exact hr) (fun W2 hB2 hJ2 => ?_)).mono ?_
  · refine (jx_any w b hbb hT _ l T r lg un (Nat.le_refl _) (by omega) hv false false W2 (below_but hbb hB hB2) hJ2).mono ?_
    rintro e w' ⟨o, kids, he, hI, hO, hE, hj, hb2⟩
    exact ⟨o, kids, r, _, _, he, rfl, hj, hb2⟩
  · rintro e w' ⟨o, kids, r2, lg2, un2, W2, X, he, _, hB1, hj, hb2, _⟩
    exact ⟨o, kids, _, _, _, he, hj, hb2⟩
end
end Go.Proofs.YtebfggiodhaahaaGreatDoor
end
