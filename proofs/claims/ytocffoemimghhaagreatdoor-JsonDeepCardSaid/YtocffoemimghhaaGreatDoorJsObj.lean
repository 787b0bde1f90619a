/-
  (*reader).object of one member: read whole, or with its end missing.
-/
import Derived.Test.YtocffoemimghhaaGreatDoorJsOrd
namespace Go.Proofs.YtocffoemimghhaaGreatDoor
open Go.RowKit Go.Shelf Go.Maps
set_option linter.unusedVariables false

set_option maxRecDepth 100000 in
set_option maxHeartbeats 8000000 in
theorem robj_one (w0 : World) (b : Nat) (hb0 : w0.heap.size ≤ b) (l x r2 : List UInt8) (T : VT) (r3 r4 : List UInt8) (ok lg1 un1 : Bool) (hl : l.length ≤ 50000000000000) (hne : Lib.hasPrefix (jskip l) [125] = false) (hn1 : JN l x r2) (hr3 : r3.length < r2.length) (h44 : Lib.hasPrefix (jskip r3) [44] = false) (hend : (ok = true ∧ jskip r3 = 125 :: r4) ∨ (ok = false ∧ r4 = jskip r3 ∧ Lib.hasPrefix (jskip r3) [125] = false))
    (hv : VC w0 b r2 T r3 lg1 un1) (lg un : Bool) (w : World) (hw : Below w0.heap.size w0 w) (h : Jr w b (str l) lg un) :
    Calls Tryz.prog 79 #[.pointer (some ⟨b, 0, none⟩)] w fun e w' => ∃ (o : Own) (kids : List VT), e = .returned (.tuple #[V10 o.kind o.g (lb 0 o.x) (lb 1 o.x) (lb 2 o.x) (lb 3 o.x) o.bits o.text o.la kids.length o.lcap o.ka o.keys.length o.kcap, .bool ok]) ∧ (VT.mk o kids).In w' ∧ (VT.mk o kids).Off (fun k => k < w.heap.size) ∧ er (VT.mk o kids) = objE x T ∧ Jr w' b (str r4) (lg || lg1) (un || un1) ∧ But w.heap.size b w w' := by
  have hjl := jskip_len l
  have hj3 := jskip_len r3
  have hx1 := hn1.len
  have KS : Hid (∀ W, Jr W b (str l) lg un → Calls Tryz.prog 76 #[.pointer (some ⟨b, 0, none⟩), .string ⟨#[125]⟩] W fun e w' => e = .returned (.bool false) ∧ Jr w' b (str (jskip l)) lg un ∧ But W.heap.size b W w') := Lib.hid (fun W hW => sgn_no l _ rfl ⟨#[125]⟩ (by omega) b lg un W hW hne)
  have KN1 : Hid (∀ W, Jr W b (str (jskip l)) lg un → Calls Tryz.prog 121 #[.pointer (some ⟨b, 0, none⟩)] W fun e w' => e = .returned (.tuple #[.string (str x), .bool true]) ∧ Jr w' b (str r2) lg un ∧ But W.heap.size b W w') := Lib.hid (fun W hW => rname_ok (jskip l) x r2 (by omega) hn1.skip b lg un W hW)
  have KC : Hid (∀ W lg un, Jr W b (str r3) lg un → Calls Tryz.prog 76 #[.pointer (some ⟨b, 0, none⟩), .string ⟨#[44]⟩] W fun e w' => e = .returned (.bool false) ∧ Jr w' b (str (jskip r3)) lg un ∧ But W.heap.size b W w') := Lib.hid (fun W lg un hW => sgn_no r3 _ rfl ⟨#[44]⟩ (by omega) b lg un W hW h44)
  have KE : Hid (∀ W lg un, Jr W b (str (jskip r3)) lg un → Calls Tryz.prog 76 #[.pointer (some ⟨b, 0, none⟩), .string ⟨#[125]⟩] W fun e w' => e = .returned (.bool ok) ∧ Jr w' b (str r4) lg un ∧ But W.heap.size b W w') := Lib.hid (fun W lg un hW => by
    have hl3 : (jskip r3).length ≤ 70000000000000 := by omega
    rcases hend with ⟨rfl, h9⟩ | ⟨rfl, h9, h8⟩
    · exact sgn_yes (jskip r3) _ (by rw [jskip_id]; exact h9) ⟨#[125]⟩ hl3 b lg un W hW r4 rfl
    · have := sgn_no (jskip r3) _ (jskip_id r3) ⟨#[125]⟩ hl3 b lg un W hW h8
      rw [h9]
      exact this)
  unfold VC at hv
  have KV := Lib.hid hv
  have HW := Lib.hid hw
  have HK := Lib.hid (key_of x (by omega))
  obtain ⟨X, hX⟩ : ∃ X, str x = X := ⟨_, rfl⟩
  have HX := Lib.hid hX
  rw [hX] at HK KN1
  have hbw := h.lt
  have HXL := Lib.hid (show x.length ≤ 60000000000000 by omega)
  have J0 : Hid (Jr ((w.alloc (.cells #[.int .i64 0, .bool false, .int .u64 0, .int .u64 0, .int .u64 0, .int .u64 0, .int .u64 0, .string ⟨#[]⟩, .slice none 0 0, .slice none 0 0] 30)).alloc (.map #[] 0)) b (str l) lg un) := Lib.hid ((h.alloc _).alloc _)
  have B0 : Hid (But w.heap.size b w ((w.alloc (.cells #[.int .i64 0, .bool false, .int .u64 0, .int .u64 0, .int .u64 0, .int .u64 0, .int .u64 0, .string ⟨#[]⟩, .slice none 0 0, .slice none 0 0] 30)).alloc (.map #[] 0))) := Lib.hid (But.of (bal (bal (Below.refl _ _) _) _))
  have A0 : Hid (Row10 ((w.alloc (.cells #[.int .i64 0, .bool false, .int .u64 0, .int .u64 0, .int .u64 0, .int .u64 0, .int .u64 0, .string ⟨#[]⟩, .slice none 0 0, .slice none 0 0] 30)).alloc (.map #[] 0)) w.heap.size (.int .i64 0) (.bool false) (.int .u64 0) (.int .u64 0) (.int .u64 0) (.int .u64 0) (.int .u64 0) (.string ⟨#[]⟩) (.slice none 0 0) (.slice none 0 0)) := Lib.hid ((Row10.new w (.int .i64 0) (.bool false) (.int .u64 0) (.int .u64 0) (.int .u64 0) (.int .u64 0) (.int .u64 0) (.string ⟨#[]⟩) (.slice none 0 0) (.slice none 0 0)).alloc _)
  have M0 : Hid (mOwn ((w.alloc (.cells #[.int .i64 0, .bool false, .int .u64 0, .int .u64 0, .int .u64 0, .int .u64 0, .int .u64 0, .string ⟨#[]⟩, .slice none 0 0, .slice none 0 0] 30)).alloc (.map #[] 0)) (w.heap.size + 1) 0 (.map [])) := Lib.hid (by
    have h9 := World.ownsMap_made (w.alloc (.cells #[.int .i64 0, .bool false, .int .u64 0, .int .u64 0, .int .u64 0, .int .u64 0, .int .u64 0, .string ⟨#[]⟩, .slice none 0 0, .slice none 0 0] 30)) Tryz.prog 9 mR
    have h8 : (w.alloc (.cells #[.int .i64 0, .bool false, .int .u64 0, .int .u64 0, .int .u64 0, .int .u64 0, .int .u64 0, .string ⟨#[]⟩, .slice none 0 0, .slice none 0 0] 30)).heap.size = w.heap.size + 1 := by simp
    rw [h8] at h9
    exact h9)
  have hmm := @run_makeMap Tryz.prog
  clear h hne hn1 h44 hend hv hw hX
  go_enter Tryz.func79, Tryz.ntmps79
  go_wp2_with (go_at_call 76; ((with_reducible refine (KS.out _ J0.out).mono ?_); rintro e w1 ⟨rfl, hj, hb⟩; have J1 := Lib.hid hj; have B1 := Lib.hid (B0.out.trans (hb.mono (by simp; omega))); have A1 := Lib.hid (A0.out.butJ hb (by omega)); have M1 := Lib.hid (mOwn.butJ M0.out hb (by omega)); clear hj hb))
  go_loopw [5, 6, 7, 8] (fun _ _ _ _ wr => Hid (Jr wr b (str (jskip l)) lg un) ∧ Hid (mOwn wr (w.heap.size + 1) 0 (.map [])) ∧ Hid (Row10 wr w.heap.size (.int .i64 0) (.bool false) (.int .u64 0) (.int .u64 0) (.int .u64 0) (.int .u64 0) (.int .u64 0) (.string ⟨#[]⟩) (.slice none 0 0) (.slice none 0 0)) ∧ Hid (But w.heap.size b w wr)) (fun _ _ _ _ wr => restJ wr b)
  case atStart => exact ⟨J1, M1, A1, B1⟩
  case round =>
    obtain ⟨HJ, HM, HA, HB⟩ := hrel
    clear J1 B1 A1 M1
    rename World => wr
    have sA := HA.out.lt
    have sM := HM.out.lt
    go_wp2_with (first
      | (go_at_call 121; ((with_reducible refine (KN1.out _ HJ.out).mono ?_); rintro e w2 ⟨rfl, hj, hb⟩; have J2 := Lib.hid hj; have B2 := Lib.hid (HB.out.trans (hb.mono HB.out.size)); have A2 := Lib.hid (HA.out.butJ hb (by omega)); have M2 := Lib.hid (mOwn.butJ HM.out hb (by omega)); have s2 := hb.size; clear hj hb))
      | (at_lookup; refine wpList_lookup_own_ok _ rfl _ _ 131 rfl 9 30 mlaw Tryz.underlying131 mR (mzero _) (.held (V10 0 false 0 0 0 0 0 ⟨#[]⟩ none 0 0 none 0 0)) [] rfl (w.heap.size + 1) 0 (.map []) rfl M2.out _ (.string x) rfl HK.out ?_; intro v ps hv; obtain rfl := mR_inv hv (u := V10 0 false 0 0 0 0 0 ⟨#[]⟩ none 0 0 none 0 0) rfl; clear hv; rw [show Maps.has (DataW.map ([] : List (Lit × DataW Value))) (.string x) = false from rfl]; have J3 : Hid (Jr (w2.alloc (.cells #[.int .i64 0, .bool false, .int .u64 0, .int .u64 0, .int .u64 0, .int .u64 0, .int .u64 0, .string ⟨#[]⟩, .slice none 0 0, .slice none 0 0] 30)) b (str r2) lg un) := Lib.hid (J2.out.alloc _); have B3 : Hid (But w.heap.size b w (w2.alloc (.cells #[.int .i64 0, .bool false, .int .u64 0, .int .u64 0, .int .u64 0, .int .u64 0, .int .u64 0, .string ⟨#[]⟩, .slice none 0 0, .slice none 0 0] 30))) := Lib.hid (B2.out.trans (But.ofB (bal (Below.refl _ w2) _) B2.out.size)); have A3 : Hid (Row10 (w2.alloc (.cells #[.int .i64 0, .bool false, .int .u64 0, .int .u64 0, .int .u64 0, .int .u64 0, .int .u64 0, .string ⟨#[]⟩, .slice none 0 0, .slice none 0 0] 30)) w.heap.size (.int .i64 0) (.bool false) (.int .u64 0) (.int .u64 0) (.int .u64 0) (.int .u64 0) (.int .u64 0) (.string ⟨#[]⟩) (.slice none 0 0) (.slice none 0 0)) := Lib.hid (A2.out.alloc _); have M3 : Hid (mOwn (w2.alloc (.cells #[.int .i64 0, .bool false, .int .u64 0, .int .u64 0, .int .u64 0, .int .u64 0, .int .u64 0, .string ⟨#[]⟩, .slice none 0 0, .slice none 0 0] 30)) (w.heap.size + 1) 0 (.map [])) := Lib.hid (World.ownsMap.alloc M2.out _))
      | (go_at_call 41; ((with_reducible refine (KV.out lg un _ (below_but hb0 HW.out B3.out) J3.out).mono ?_); rintro e w4 ⟨o, kids, rfl, hIn, hOff, hEr, hj, hb⟩; have J4 := Lib.hid hj; have B4 := Lib.hid (B3.out.trans (hb.mono B3.out.size)); have A4 := Lib.hid (A3.out.butJ hb (by omega)); have M4 := Lib.hid (mOwn.butJ M3.out hb (by omega)); have s4 := hb.size; have I4 := Lib.hid hIn; have O4 : Hid ((VT.mk o kids).Off (fun k => k < w.heap.size + 2)) := Lib.hid (hOff.mono (fun k hk => by have := A3.out.lt; have := M3.out.lt; show k < _; omega)); have E4 := Lib.hid hEr; clear hIn hOff hEr hj hb))
      | (at_mapUpdate; refine wpList_mapUpdate_own _ rfl _ _ _ 131 rfl 9 30 mlaw Tryz.underlying131 mR (w.heap.size + 1) 0 (.map []) rfl M4.out (by unfold maxLen; omega) _ (V10 o.kind o.g (lb 0 o.x) (lb 1 o.x) (lb 2 o.x) (lb 3 o.x) o.bits o.text o.la kids.length o.lcap o.ka o.keys.length o.kcap) (.string x) rfl rfl HK.out (.held (V10 o.kind o.g (lb 0 o.x) (lb 1 o.x) (lb 2 o.x) (lb 3 o.x) o.bits o.text o.la kids.length o.lcap o.ka o.keys.length o.kcap)) [] rfl ?_; intro w5 own5 hg5; have M5 := Lib.hid own5; have J5 : Hid (Jr w5 b (str r3) (lg || lg1) (un || un1)) := Lib.hid ((hg5.block b J4.out.lt (by intro e; have := Option.some.inj e; omega)).trans J4.out); have A5 : Hid (Row10 w5 w.heap.size (.int .i64 0) (.bool false) (.int .u64 0) (.int .u64 0) (.int .u64 0) (.int .u64 0) (.int .u64 0) (.string ⟨#[]⟩) (.slice none 0 0) (.slice none 0 0)) := Lib.hid ((hg5.block _ A4.out.lt (by intro e; have := Option.some.inj e; omega)).trans A4.out); have B5 : Hid (But w.heap.size b w w5) := Lib.hid (B4.out.trans ⟨hg5.os, hg5.tape, hg5.output, hg5.size, fun k hk hkb => hg5.block k (Nat.lt_of_lt_of_le hk B4.out.size) (by intro e; have := Option.some.inj e; omega)⟩); have I5 : Hid ((VT.mk o kids).In w5) := Lib.hid (VT.In.off (S := fun k => k = w.heap.size + 1) (fun k hk hlt => hg5.block k hlt (by intro e; exact hk (Option.some.inj e))) I4.out (O4.out.mono (fun k hk => by show k < _; rw [show k = w.heap.size + 1 from hk]; omega))); clear own5 hg5)
      | (go_at_call 76; ((with_reducible refine (KC.out _ _ _ J5.out).mono ?_); rintro e w6 ⟨rfl, hj, hb⟩; have J6 := Lib.hid hj; have B6 := Lib.hid (B5.out.trans (hb.mono B5.out.size)); have A6 := Lib.hid (A5.out.butJ hb (by omega)); have M6 := Lib.hid (mOwn.butJ M5.out hb (by omega)); have I6 : Hid ((VT.mk o kids).In w6) := Lib.hid (VT.In.off (S := fun k => k = b) (fun k hk hlt => hb.block k hlt hk) I5.out (O4.out.mono (fun k hk => by show k < _; rw [show k = b from hk]; omega))); clear hj hb))
      | (go_at_call 120; ((with_reducible refine (rord_one (w.heap.size + 1) x HXL.out o kids w6 M6.out I6.out).mono ?_); rintro e w7 ⟨gl, lc, gk, kc, rfl, hgl, hgk, hIt, hb⟩; have s6 := M6.out.lt; have J7 := Lib.hid (J6.out.keep hb); have A7 := Lib.hid (Row10.keep hb A6.out); have B7 := Lib.hid (B6.out.trans (But.ofB (B := b) hb B6.out.size)); have IT7 := Lib.hid hIt; have OT : Hid ((VT.mk ⟨8, false, 0, 0, ⟨#[]⟩, some ⟨gl, 0, none⟩, lc, some ⟨gk, 0, none⟩, kc, [str x]⟩ [VT.mk o kids]).Off (fun k => k < w.heap.size + 2)) := Lib.hid (.mk _ _ (fun _ ad h => by cases h; show ¬ gl < _; omega) (fun _ ad h => by cases h; show ¬ gk < _; omega) (fun t ht => by rw [List.mem_singleton.1 ht]; exact O4.out)); clear hIt hb))
      | (go_at_call 76; ((with_reducible refine (KE.out _ _ _ J7.out).mono ?_); rintro e w8 ⟨rfl, hj, hb⟩; have J8 := Lib.hid hj; have B8 := Lib.hid (B7.out.trans (hb.mono B7.out.size)); have A8 := Lib.hid (A7.out.butJ hb (by omega)); have IT8 : Hid ((VT.mk ⟨8, false, 0, 0, ⟨#[]⟩, some ⟨gl, 0, none⟩, lc, some ⟨gk, 0, none⟩, kc, [str x]⟩ [VT.mk o kids]).In w8) := Lib.hid (VT.In.off (S := fun k => k = b) (fun k hk hlt => hb.block k hlt hk) IT7.out (OT.out.mono (fun k hk => by show k < _; rw [show k = b from hk]; omega))); obtain ⟨a0, a1, a2, a3, a4, a5, a6, a7, a8, a9⟩ := A8.out.parts; have al := A8.out.lt; have af := A8.out.free; clear hj hb)))
    obtain ⟨z0, z1, z2, z3, z4, z5, z6, z7, z8, z9⟩ := (A8.out.set10 (.int .i64 8) (.bool false) (.int .u64 0) (.int .u64 0) (.int .u64 0) (.int .u64 0) (.int .u64 0) (.string ⟨#[]⟩) (.slice (some ⟨gl, 0, none⟩) 1 lc) (.slice (some ⟨gk, 0, none⟩) 1 kc)).parts
    have SS := ButS.set10 (S := fun k => k = w.heap.size) w8 (c := w.heap.size) rfl (.int .i64 8) (.bool false) (.int .u64 0) (.int .u64 0) (.int .u64 0) (.int .u64 0) (.int .u64 0) (.string ⟨#[]⟩) (.slice (some ⟨gl, 0, none⟩) 1 lc) (.slice (some ⟨gk, 0, none⟩) 1 kc)
    refine bodyPost_ret (v := .tuple #[V10 8 false 0 0 0 0 0 ⟨#[]⟩ (some ⟨gl, 0, none⟩) 1 lc (some ⟨gk, 0, none⟩) 1 kc, .bool ok]) (by simp [results, Tryz.results79, go_sem, z0, z1, z2, z3, z4, z5, z6, z7, z8, z9]) rfl ?_
    refine ⟨⟨8, false, 0, 0, ⟨#[]⟩, some ⟨gl, 0, none⟩, lc, some ⟨gk, 0, none⟩, kc, [str x]⟩, [VT.mk o kids], by simp only [lb_zero]; rfl, SS.keep IT8.out (OT.out.mono (fun k hk => by show k < _; rw [show k = w.heap.size from hk]; omega)), OT.out.mono (fun k hk => by show k < w.heap.size + 2; have : k < w.heap.size := hk; omega), ?_, J8.out.set10 (by omega) _ _ _ _ _ _ _ _ _ _, B8.out.set10 (Nat.le_refl _) _ _ _ _ _ _ _ _ _ _⟩
    rw [er_mk]
    show VT.mk _ [er (VT.mk o kids)] = _
    rw [E4.out]
    rfl
end Go.Proofs.YtocffoemimghhaaGreatDoor
