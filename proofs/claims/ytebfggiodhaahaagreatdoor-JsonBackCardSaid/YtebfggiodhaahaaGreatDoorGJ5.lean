/-
  JsMap JsTwice JsDec JsDecT JsToldM JsTold JsToldT, one behind the other: a claim holds at most 60 files.
-/
import Derived.Test.YtebfggiodhaahaaGreatDoorGJ4
import Derived.Maps.Own
import Derived.Maps.OwnOps
import Derived.Maps.OwnSet
import Derived.Maps.Views
import Derived.Test.YtebfggiodhaahaaGreatDoorGJ2
import Derived.Lib.SlBytesConst
import Derived.Lib.SmallJoins
section
namespace Go.Proofs.YtebfggiodhaahaaGreatDoor
open Go.RowKit Go.Shelf Go.Maps
set_option linter.unusedVariables false

theorem mlaw : Keyed Tryz.prog 9 := string_keyed Tryz.underlying9
theorem mzero (w : World) : (zeroValue 32).run Tryz.prog w = .ok (V10 0 false 0 0 0 0 0 ⟨#[]⟩ none 0 0 none 0 0) w := by kernel_rfl
/-- An element of the reader's map reads as itself. -/
def mR (v : Value) : Option (DataW Value × List MemPlace) := some (.held v, [])
abbrev mOwn (W : World) (b n : Nat) (D : DataW Value) : Prop := W.ownsMap Tryz.prog 9 mR b n D
theorem mR_inv {v u : Value} {D : DataW Value} {ps : List MemPlace} (h : mR v = some (D, ps)) (hD : D = .held u) : v = u := by
  unfold mR at h
  simp only [Option.some.injEq, Prod.mk.injEq] at h
  rw [hD] at h
  exact DataW.held.inj h.1
/-- A name, and the colon behind it. -/
def JN (l : List UInt8) (x : List UInt8) (r : List UInt8) : Prop := ∃ (f : Nat) (t r1 : List UInt8), jskip l = 34 :: t ∧ jtx f t [] = some (x, r1) ∧ jskip r1 = 58 :: r
theorem JN.skip {l x r : List UInt8} (h : JN l x r) : JN (jskip l) x r := by
  obtain ⟨f, t, r1, h1, h2, h3⟩ := h
  exact ⟨f, t, r1, by rw [jskip_id]; exact h1, h2, h3⟩
theorem JN.len {l x r : List UInt8} (h : JN l x r) : x.length ≤ l.length ∧ r.length < l.length := by
  obtain ⟨f, t, r1, h1, h2, h3⟩ := h
  have a1 := jskip_len l
  have a2 := jtx_len f t [] x r1 h2
  have a3 := jskip_len r1
  rw [h1, List.length_cons] at a1
  rw [h3, List.length_cons] at a3
  rw [List.length_nil] at a2
  omega
set_option maxRecDepth 100000 in
set_option maxHeartbeats 1000000 in
theorem rname_ok (l x r : List UInt8) (hl : l.length ≤ 60000000000000) (hn : JN l x r) (b : Nat) (lg un : Bool) (w : World) (h : Jr w b (str l) lg un) :
    Calls Tryz.prog 76 #[.pointer (some ⟨b, 0, none⟩)] w fun e w' => e = .returned (.tuple #[.string (str x), .bool true]) ∧ Jr w' b (str r) lg un ∧ But w.heap.size b w w' := by
  obtain ⟨f, t, r1, h1, h2, h3⟩ := hn
  have a1 := jskip_len l
  have a2 := jtx_len f t [] x r1 h2
  rw [h1, List.length_cons] at a1
  rw [List.length_nil] at a2
  have KA : Hid (∀ W, Jr W b (str l) lg un → Calls Tryz.prog 37 #[.pointer (some ⟨b, 0, none⟩), .string ⟨#[34]⟩] W fun e w' => e = .returned (.bool true) ∧ Jr w' b (str t) lg un ∧ But W.heap.size b W w') := Lib.hid (fun W hW => sgn_yes l _ h1 ⟨#[34]⟩ (by omega) b lg un W hW t rfl)
  have KT : Hid (∀ W, Jr W b (str t) lg un → Calls Tryz.prog 38 #[.pointer (some ⟨b, 0, none⟩)] W fun e w' => e = .returned (.tuple #[.string (str x), .bool true]) ∧ Jr w' b (str r1) lg un ∧ But W.heap.size b W w') := Lib.hid (fun W hW => rtext_ok f t x r1 (by omega) h2 b lg un W hW)
  have KB : Hid (∀ W, Jr W b (str r1) lg un → Calls Tryz.prog 37 #[.pointer (some ⟨b, 0, none⟩), .string ⟨#[58]⟩] W fun e w' => e = .returned (.bool true) ∧ Jr w' b (str r) lg un ∧ But W.heap.size b W w') := Lib.hid (fun W hW => sgn_yes r1 _ h3 ⟨#[58]⟩ (by omega) b lg un W hW r rfl)
  have J0 := Lib.hid h
  have B0 : Hid (But w.heap.size b w w) := Lib.hid (But.of (Below.refl _ _))
  clear h h1 h2 h3
  go_enter Tryz.func76, Tryz.ntmps76
  go_wp2_with (first
    | (go_at_call 37; ((with_reducible refine (KA.out _ J0.out).mono ?_); rintro e w1 ⟨rfl, hj, hb⟩; have J1 := Lib.hid hj; have B1 := Lib.hid hb; clear hj hb))
    | (go_at_call 38; ((with_reducible refine (KT.out _ J1.out).mono ?_); rintro e w2 ⟨rfl, hj, hb⟩; have J2 := Lib.hid hj; have B2 := Lib.hid (B1.out.trans (hb.mono B1.out.size)); clear hj hb))
    | (go_at_call 37; ((with_reducible refine (KB.out _ J2.out).mono ?_); rintro e w3 ⟨rfl, hj, hb⟩; have J3 := Lib.hid hj; have B3 := Lib.hid (B2.out.trans (hb.mono B2.out.size)); clear hj hb)))
  go_ret2
  exact ⟨rfl, J3.out, B3.out⟩
end Go.Proofs.YtebfggiodhaahaaGreatDoor
end
section
namespace Go.Proofs.YtebfggiodhaahaaGreatDoor
open Go.RowKit Go.Shelf Go.Maps
set_option linter.unusedVariables false

theorem mOwn.butJ {W W' : World} {b c n : Nat} {D : DataW Value} (h : mOwn W c n D) (hb : But W.heap.size b W W') (hne : c ≠ b) : mOwn W' c n D := by
  have hlt := h.lt
  obtain ⟨es, clock, h1, h2⟩ := h
  exact ⟨es, clock, (hb.block c hlt hne).trans h1, h2⟩
theorem key_of (x : List UInt8) (hx : x.length ≤ 60000000000000) : keyOf Tryz.prog 9 (.string (str x)) = some (.string x) := by
  have := WideMaps.keyOf_string_mk Tryz.underlying9 (s := str x) (by rw [str_size]; unfold maxLen; omega)
  rw [this, str_data]
set_option maxRecDepth 100000 in
set_option maxHeartbeats 4000000 in
theorem robj_twice (w0 : World) (b : Nat) (hb0 : w0.heap.size ≤ b) (l x r2 : List UInt8) (T : VT) (r3 l2 r4 : List UInt8) (lg1 un1 : Bool) (hl : l.length ≤ 900000000000) (hne : Lib.hasPrefix (jskip l) [125] = false) (hn1 : JN l x r2) (hr3 : r3.length < r2.length) (hs : jskip r3 = 44 :: l2) (hn2 : JN l2 x r4)
    (hv : VC w0 b r2 T r3 lg1 un1) (lg un : Bool) (w : World) (hw : Below w0.heap.size w0 w) (h : Jr w b (str l) lg un) :
    Calls Tryz.prog 40 #[.pointer (some ⟨b, 0, none⟩)] w fun e w' => e = .returned (.tuple #[V10 0 false 0 0 0 0 0 ⟨#[]⟩ none 0 0 none 0 0, .bool false]) ∧ (∃ s lg2 un2, Jr w' b s lg2 un2) ∧ But w.heap.size b w w' := by
  have hjl := jskip_len l
  have hj3 := jskip_len r3
  rw [hs, List.length_cons] at hj3
  have hx1 := hn1.len
  have KS : Hid (∀ W, Jr W b (str l) lg un → Calls Tryz.prog 37 #[.pointer (some ⟨b, 0, none⟩), .string ⟨#[125]⟩] W fun e w' => e = .returned (.bool false) ∧ Jr w' b (str (jskip l)) lg un ∧ But W.heap.size b W w') := Lib.hid (fun W hW => sgn_no l _ rfl ⟨#[125]⟩ (by omega) b lg un W hW hne)
  have KN1 : Hid (∀ W, Jr W b (str (jskip l)) lg un → Calls Tryz.prog 76 #[.pointer (some ⟨b, 0, none⟩)] W fun e w' => e = .returned (.tuple #[.string (str x), .bool true]) ∧ Jr w' b (str r2) lg un ∧ But W.heap.size b W w') := Lib.hid (fun W hW => rname_ok (jskip l) x r2 (by omega) hn1.skip b lg un W hW)
  have KN2 : Hid (∀ W lg un, Jr W b (str l2) lg un → Calls Tryz.prog 76 #[.pointer (some ⟨b, 0, none⟩)] W fun e w' => e = .returned (.tuple #[.string (str x), .bool true]) ∧ Jr w' b (str r4) lg un ∧ But W.heap.size b W w') := Lib.hid (fun W lg un hW => rname_ok l2 x r4 (by omega) hn2 b lg un W hW)
  have KC : Hid (∀ W lg un, Jr W b (str r3) lg un → Calls Tryz.prog 37 #[.pointer (some ⟨b, 0, none⟩), .string ⟨#[44]⟩] W fun e w' => e = .returned (.bool true) ∧ Jr w' b (str l2) lg un ∧ But W.heap.size b W w') := Lib.hid (fun W lg un hW => sgn_yes r3 _ hs ⟨#[44]⟩ (by omega) b lg un W hW l2 rfl)
  unfold VC at hv
  have KV := Lib.hid hv
  have HW := Lib.hid hw
  have HK := Lib.hid (key_of x (by omega))
  obtain ⟨X, hX⟩ : ∃ X, str x = X := ⟨_, rfl⟩
  rw [hX] at HK KN1 KN2
  have hbw := h.lt
  have J0 : Hid (Jr ((w.alloc (.cells #[.int .i64 0, .bool false, .int .u64 0, .int .u64 0, .int .u64 0, .int .u64 0, .int .u64 0, .string ⟨#[]⟩, .slice none 0 0, .slice none 0 0] 32)).alloc (.map #[] 0)) b (str l) lg un) := Lib.hid ((h.alloc _).alloc _)
  have B0 : Hid (But w.heap.size b w ((w.alloc (.cells #[.int .i64 0, .bool false, .int .u64 0, .int .u64 0, .int .u64 0, .int .u64 0, .int .u64 0, .string ⟨#[]⟩, .slice none 0 0, .slice none 0 0] 32)).alloc (.map #[] 0))) := Lib.hid (But.of (bal (bal (Below.refl _ _) _) _))
  have A0 : Hid (Row10 ((w.alloc (.cells #[.int .i64 0, .bool false, .int .u64 0, .int .u64 0, .int .u64 0, .int .u64 0, .int .u64 0, .string ⟨#[]⟩, .slice none 0 0, .slice none 0 0] 32)).alloc (.map #[] 0)) w.heap.size (.int .i64 0) (.bool false) (.int .u64 0) (.int .u64 0) (.int .u64 0) (.int .u64 0) (.int .u64 0) (.string ⟨#[]⟩) (.slice none 0 0) (.slice none 0 0)) := Lib.hid ((Row10.new w (.int .i64 0) (.bool false) (.int .u64 0) (.int .u64 0) (.int .u64 0) (.int .u64 0) (.int .u64 0) (.string ⟨#[]⟩) (.slice none 0 0) (.slice none 0 0)).alloc _)
  have M0 : Hid (mOwn ((w.alloc (.cells #[.int .i64 0, .bool false, .int .u64 0, .int .u64 0, .int .u64 0, .int .u64 0, .int .u64 0, .string ⟨#[]⟩, .slice none 0 0, .slice none 0 0] 32)).alloc (.map #[] 0)) (w.heap.size + 1) 0 (.map [])) := Lib.hid (by
    have h9 := World.ownsMap_made (w.alloc (.cells #[.int .i64 0, .bool false, .int .u64 0, .int .u64 0, .int .u64 0, .int .u64 0, .int .u64 0, .string ⟨#[]⟩, .slice none 0 0, .slice none 0 0] 32)) Tryz.prog 9 mR
    have h8 : (w.alloc (.cells #[.int .i64 0, .bool false, .int .u64 0, .int .u64 0, .int .u64 0, .int .u64 0, .int .u64 0, .string ⟨#[]⟩, .slice none 0 0, .slice none 0 0] 32)).heap.size = w.heap.size + 1 := by simp
    rw [h8] at h9
    exact h9)
  have hlen2 : l2.length < (jskip l).length := by
    have := hn1.skip.len
    omega
  have hmm := @run_makeMap Tryz.prog
  clear h hne hn1 hn2 hs hv hw hX
  go_enter Tryz.func40, Tryz.ntmps40
  go_wp2_with (go_at_call 37; ((with_reducible refine (KS.out _ J0.out).mono ?_); rintro e w1 ⟨rfl, hj, hb⟩; have J1 := Lib.hid hj; have B1 := Lib.hid (B0.out.trans (hb.mono (by simp; omega))); have A1 := Lib.hid (A0.out.butJ hb (by omega)); have M1 := Lib.hid (mOwn.butJ M0.out hb (by omega)); clear hj hb))
  go_loopw [5, 6, 7, 8] (fun _ _ _ _ wr => ((Hid (Jr wr b (str (jskip l)) lg un) ∧ Hid (mOwn wr (w.heap.size + 1) 0 (.map []))) ∨ ∃ (o : Own) (kids : List VT) (lg2 un2 : Bool), Hid (Jr wr b (str l2) lg2 un2) ∧ Hid (mOwn wr (w.heap.size + 1) 1 ((DataW.map []).put (.string x) (.held (V10 o.kind o.g (lb 0 o.x) (lb 1 o.x) (lb 2 o.x) (lb 3 o.x) o.bits o.text o.la kids.length o.lcap o.ka o.keys.length o.kcap))))) ∧ Hid (Row10 wr w.heap.size (.int .i64 0) (.bool false) (.int .u64 0) (.int .u64 0) (.int .u64 0) (.int .u64 0) (.int .u64 0) (.string ⟨#[]⟩) (.slice none 0 0) (.slice none 0 0)) ∧ Hid (But w.heap.size b w wr)) (fun _ _ _ _ wr => restJ wr b)
  case atStart => exact ⟨Or.inl ⟨J1, M1⟩, A1, B1⟩
  case round =>
    obtain ⟨hcase, HA, HB⟩ := hrel
    clear J1 B1 A1 M1
    rename World => wr
    rcases hcase with ⟨HJ, HM⟩ | ⟨o, kids, lg2, un2, HJ, HM⟩
    · have HMS := Lib.hid (restJ_jr HJ.out)
      have sA := HA.out.lt
      have sM := HM.out.lt
      go_wp2_with (first
        | (go_at_call 76; ((with_reducible refine (KN1.out _ HJ.out).mono ?_); rintro e w2 ⟨rfl, hj, hb⟩; have J2 := Lib.hid hj; have B2 := Lib.hid (HB.out.trans (hb.mono HB.out.size)); have A2 := Lib.hid (HA.out.butJ hb (by omega)); have M2 := Lib.hid (mOwn.butJ HM.out hb (by omega)); have s2 := hb.size; clear hj hb))
        | (at_lookup; refine wpList_lookup_own_ok _ rfl _ _ 95 rfl 9 32 mlaw Tryz.underlying95 mR (mzero _) (.held (V10 0 false 0 0 0 0 0 ⟨#[]⟩ none 0 0 none 0 0)) [] rfl (w.heap.size + 1) 0 (.map []) rfl M2.out _ (.string x) rfl HK.out ?_; intro v ps hv; obtain rfl := mR_inv hv (u := V10 0 false 0 0 0 0 0 ⟨#[]⟩ none 0 0 none 0 0) rfl; clear hv; rw [show Maps.has (DataW.map ([] : List (Lit × DataW Value))) (.string x) = false from rfl]; have J3 : Hid (Jr (w2.alloc (.cells #[.int .i64 0, .bool false, .int .u64 0, .int .u64 0, .int .u64 0, .int .u64 0, .int .u64 0, .string ⟨#[]⟩, .slice none 0 0, .slice none 0 0] 32)) b (str r2) lg un) := Lib.hid (J2.out.alloc _); have B3 : Hid (But w.heap.size b w (w2.alloc (.cells #[.int .i64 0, .bool false, .int .u64 0, .int .u64 0, .int .u64 0, .int .u64 0, .int .u64 0, .string ⟨#[]⟩, .slice none 0 0, .slice none 0 0] 32))) := Lib.hid (B2.out.trans (But.ofB (bal (Below.refl _ w2) _) B2.out.size)); have A3 : Hid (Row10 (w2.alloc (.cells #[.int .i64 0, .bool false, .int .u64 0, .int .u64 0, .int .u64 0, .int .u64 0, .int .u64 0, .string ⟨#[]⟩, .slice none 0 0, .slice none 0 0] 32)) w.heap.size (.int .i64 0) (.bool false) (.int .u64 0) (.int .u64 0) (.int .u64 0) (.int .u64 0) (.int .u64 0) (.string ⟨#[]⟩) (.slice none 0 0) (.slice none 0 0)) := Lib.hid (A2.out.alloc _); have M3 : Hid (mOwn (w2.alloc (.cells #[.int .i64 0, .bool false, .int .u64 0, .int .u64 0, .int .u64 0, .int .u64 0, .int .u64 0, .string ⟨#[]⟩, .slice none 0 0, .slice none 0 0] 32)) (w.heap.size + 1) 0 (.map [])) := Lib.hid (World.ownsMap.alloc M2.out _))
        | (go_at_call 17; ((with_reducible refine (KV.out lg un _ (below_but hb0 HW.out B3.out) J3.out).mono ?_); rintro e w4 ⟨o, kids, rfl, hIn, hOff, hEr, hj, hb⟩; have J4 := Lib.hid hj; have B4 := Lib.hid (B3.out.trans (hb.mono B3.out.size)); have A4 := Lib.hid (A3.out.butJ hb (by omega)); have M4 := Lib.hid (mOwn.butJ M3.out hb (by omega)); have s4 := hb.size; clear hIn hOff hEr hj hb))
        | (at_mapUpdate; refine wpList_mapUpdate_own _ rfl _ _ _ 95 rfl 9 32 mlaw Tryz.underlying95 mR (w.heap.size + 1) 0 (.map []) rfl M4.out (by unfold maxLen; omega) _ (V10 o.kind o.g (lb 0 o.x) (lb 1 o.x) (lb 2 o.x) (lb 3 o.x) o.bits o.text o.la kids.length o.lcap o.ka o.keys.length o.kcap) (.string x) rfl rfl HK.out (.held (V10 o.kind o.g (lb 0 o.x) (lb 1 o.x) (lb 2 o.x) (lb 3 o.x) o.bits o.text o.la kids.length o.lcap o.ka o.keys.length o.kcap)) [] rfl ?_; intro w5 own5 hg5; have M5 := Lib.hid own5; have J5 : Hid (Jr w5 b (str r3) (lg || lg1) (un || un1)) := Lib.hid ((hg5.block b J4.out.lt (by intro e; have := Option.some.inj e; omega)).trans J4.out); have A5 : Hid (Row10 w5 w.heap.size (.int .i64 0) (.bool false) (.int .u64 0) (.int .u64 0) (.int .u64 0) (.int .u64 0) (.int .u64 0) (.string ⟨#[]⟩) (.slice none 0 0) (.slice none 0 0)) := Lib.hid ((hg5.block _ A4.out.lt (by intro e; have := Option.some.inj e; omega)).trans A4.out); have B5 : Hid (But w.heap.size b w w5) := Lib.hid (B4.out.trans ⟨hg5.os, hg5.tape, hg5.output, hg5.size, fun k hk hkb => hg5.block k (Nat.lt_of_lt_of_le hk B4.out.size) (by intro e; have := Option.some.inj e; omega)⟩); clear own5 hg5)
        | (go_at_call 37; ((with_reducible refine (KC.out _ _ _ J5.out).mono ?_); rintro e w6 ⟨rfl, hj, hb⟩; have J6 := Lib.hid hj; have B6 := Lib.hid (B5.out.trans (hb.mono B5.out.size)); have A6 := Lib.hid (A5.out.butJ hb (by omega)); have M6 := Lib.hid (mOwn.butJ M5.out hb (by omega)); clear hj hb)))
      exact ⟨⟨Or.inr ⟨o, kids, _, _, J6, M6⟩, A6, B6⟩, by
        have m1 := restJ_jr J6.out
        have m2 := HMS.out
        rw [m1, m2]
        omega⟩
    · have sA := HA.out.lt
      have sM := HM.out.lt
      go_wp2_with (first
        | (go_at_call 76; ((with_reducible refine (KN2.out _ _ _ HJ.out).mono ?_); rintro e w2 ⟨rfl, hj, hb⟩; have J2 := Lib.hid hj; have B2 := Lib.hid (HB.out.trans (hb.mono HB.out.size)); have A2 := Lib.hid (HA.out.butJ hb (by omega)); have M2 := Lib.hid (mOwn.butJ HM.out hb (by omega)); have s2 := hb.size; clear hj hb))
        | (at_lookup; refine wpList_lookup_own_ok _ rfl _ _ 95 rfl 9 32 mlaw Tryz.underlying95 mR (mzero _) (.held (V10 0 false 0 0 0 0 0 ⟨#[]⟩ none 0 0 none 0 0)) [] rfl (w.heap.size + 1) 1 ((DataW.map []).put (.string x) (.held (V10 o.kind o.g (lb 0 o.x) (lb 1 o.x) (lb 2 o.x) (lb 3 o.x) o.bits o.text o.la kids.length o.lcap o.ka o.keys.length o.kcap))) rfl M2.out _ (.string x) rfl HK.out ?_; intro v ps hv; obtain rfl := mR_inv hv (u := V10 o.kind o.g (lb 0 o.x) (lb 1 o.x) (lb 2 o.x) (lb 3 o.x) o.bits o.text o.la kids.length o.lcap o.ka o.keys.length o.kcap) (atKey_put_same (k := Lit.string x) ⟨_, rfl⟩ trivial _ _); clear hv; rw [has_put_same (k := Lit.string x) ⟨_, rfl⟩ trivial]; have J3 : Hid (Jr (w2.alloc (.cells #[.int .i64 o.kind, .bool o.g, .int .u64 (lb 0 o.x), .int .u64 (lb 1 o.x), .int .u64 (lb 2 o.x), .int .u64 (lb 3 o.x), .int .u64 o.bits, .string o.text, .slice o.la kids.length o.lcap, .slice o.ka o.keys.length o.kcap] 32)) b (str r4) lg2 un2) := Lib.hid (J2.out.alloc _); have B3 : Hid (But w.heap.size b w (w2.alloc (.cells #[.int .i64 o.kind, .bool o.g, .int .u64 (lb 0 o.x), .int .u64 (lb 1 o.x), .int .u64 (lb 2 o.x), .int .u64 (lb 3 o.x), .int .u64 o.bits, .string o.text, .slice o.la kids.length o.lcap, .slice o.ka o.keys.length o.kcap] 32))) := Lib.hid (B2.out.trans (But.ofB (bal (Below.refl _ w2) _) B2.out.size)); have A3 : Hid (Row10 (w2.alloc (.cells #[.int .i64 o.kind, .bool o.g, .int .u64 (lb 0 o.x), .int .u64 (lb 1 o.x), .int .u64 (lb 2 o.x), .int .u64 (lb 3 o.x), .int .u64 o.bits, .string o.text, .slice o.la kids.length o.lcap, .slice o.ka o.keys.length o.kcap] 32)) w.heap.size (.int .i64 0) (.bool false) (.int .u64 0) (.int .u64 0) (.int .u64 0) (.int .u64 0) (.int .u64 0) (.string ⟨#[]⟩) (.slice none 0 0) (.slice none 0 0)) := Lib.hid (A2.out.alloc _); obtain ⟨a0, a1, a2, a3, a4, a5, a6, a7, a8, a9⟩ := A3.out.parts; have al := A3.out.lt; have af := A3.out.free))
      obtain ⟨z0, z1, z2, z3, z4, z5, z6, z7, z8, z9⟩ := (A3.out.set10 (.int .i64 0) (.bool false) (.int .u64 0) (.int .u64 0) (.int .u64 0) (.int .u64 0) (.int .u64 0) (.string ⟨#[]⟩) (.slice none 0 0) (.slice none 0 0)).parts
      refine bodyPost_ret (v := .tuple #[V10 0 false 0 0 0 0 0 ⟨#[]⟩ none 0 0 none 0 0, .bool false]) (by simp [results, Tryz.results40, go_sem, z0, z1, z2, z3, z4, z5, z6, z7, z8, z9]) rfl ?_
      exact ⟨rfl, ⟨_, _, _, J3.out.set10 (by omega) _ _ _ _ _ _ _ _ _ _⟩, B3.out.set10 (Nat.le_refl _) _ _ _ _ _ _ _ _ _ _⟩
end Go.Proofs.YtebfggiodhaahaaGreatDoor
end
section
namespace Go.Proofs.YtebfggiodhaahaaGreatDoor
open Go.RowKit Go.Shelf
set_option linter.unusedVariables false
set_option linter.unusedSimpArgs false

theorem vbscJ {w X : World} (h : Below w.heap.size w X) {b : Nat} (hb : w.heap.size ≤ b) (v0 v1 v2 v3 v4 v5 v6 v7 v8 v9 : Value) :
    Below w.heap.size w ((((((((((X.setCell ⟨b, 0, none⟩ v0).setCell ⟨b, 1, none⟩ v1).setCell ⟨b, 2, none⟩ v2).setCell ⟨b, 3, none⟩ v3).setCell ⟨b, 4, none⟩ v4).setCell ⟨b, 5, none⟩ v5).setCell ⟨b, 6, none⟩ v6).setCell ⟨b, 7, none⟩ v7).setCell ⟨b, 8, none⟩ v8).setCell ⟨b, 9, none⟩ v9) :=
  bsc (bsc (bsc (bsc (bsc (bsc (bsc (bsc (bsc (bsc h hb _) hb _) hb _) hb _) hb _) hb _) hb _) hb _) hb _) hb _
theorem Jr.new' (W : World) {c : Nat} (hc : W.heap.size = c) (s : ByteArray) (lg un : Bool) : Jr (W.alloc (.cells #[.string s, .bool lg, .bool un] 43)) c s lg un := by subst hc; exact heap_alloc_new W _
theorem rdoc_jv (w0 : World) (b : Nat) (hb0 : w0.heap.size ≤ b) (hT0 : Tb w0) (l : List UInt8) (T : VT) (r : List UInt8) (lg1 un1 : Bool) (hl : l.length ≤ 900000000000) (hv : JV l T r lg1 un1) (hend : jskip r = []) (lg un : Bool) (w : World) (hw : Below w0.heap.size w0 w) (h : Jr w b (str l) lg un) :
    Calls Tryz.prog 11 #[.pointer (some ⟨b, 0, none⟩)] w fun e w' => ∃ (o : Own) (kids : List VT), e = .returned (.tuple #[V10 o.kind o.g (lb 0 o.x) (lb 1 o.x) (lb 2 o.x) (lb 3 o.x) o.bits o.text o.la kids.length o.lcap o.ka o.keys.length o.kcap, .bool true]) ∧ (VT.mk o kids).In w' ∧ (VT.mk o kids).Off (fun k => k < w.heap.size) ∧ er (VT.mk o kids) = T ∧ Jr w' b ⟨#[]⟩ (lg || lg1) (un || un1) ∧ But w.heap.size b w w' := by
  refine (rdoc_ok l b lg un w h (fun o kids r2 lg2 un2 W X => (VT.mk o kids).In X ∧ (VT.mk o kids).Off (fun k => k < W.heap.size) ∧ er (VT.mk o kids) = T ∧ r2 = r ∧ lg2 = (lg || lg1) ∧ un2 = (un || un1)) (fun o kids r2 lg2 un2 W X hQ => by rw [hQ.2.2.2.1]; exact hend) (fun W hB hW => ?_)).mono ?_
  · refine (jv_any w0 b hb0 hT0 _ l T r lg1 un1 (Nat.le_refl _) hl hv lg un W (below_but hb0 hw hB) hW).mono ?_
    rintro e w' ⟨o, kids, he, hI, hO, hE, hj, hb⟩
    exact ⟨o, kids, r, _, _, he, ⟨hI, hO, hE, rfl, rfl, rfl⟩, hj, hb⟩
  · rintro e w' ⟨o, kids, r2, lg2, un2, W, X, he, ⟨hI, hO, hE, hr, hl2, hu2⟩, hB, hj, hb, hlt, hS⟩
    have hbw := h.lt
    subst hr; subst hl2; subst hu2
    rw [hend] at hj
    exact ⟨o, kids, he, hS.keep hI (hO.mono (fun k hk => by rcases hk with rfl | rfl <;> omega)), hO.mono (fun k hk => Nat.lt_trans hk hlt), hE, hj, hb⟩
set_option maxRecDepth 100000 in
set_option maxHeartbeats 1000000 in
theorem jdec_may (l : List UInt8) (hl : l.length ≤ 65536) (gg off cap N : Nat) (hN : l.length = N) (w : World) (hb : BytesAt w gg off l) (T : VT) (lg1 un1 : Bool) (m : Int) (hm : m ≠ 0) 
    (kd : ∀ W b, Below w.heap.size w W → w.heap.size ≤ b → Jr W b (str l) false false → Calls Tryz.prog 11 #[.pointer (some ⟨b, 0, none⟩)] W fun e w' => ∃ (o : Own) (kids : List VT), e = .returned (.tuple #[V10 o.kind o.g (lb 0 o.x) (lb 1 o.x) (lb 2 o.x) (lb 3 o.x) o.bits o.text o.la kids.length o.lcap o.ka o.keys.length o.kcap, .bool true]) ∧ (VT.mk o kids).In w' ∧ (VT.mk o kids).Off (fun k => k < W.heap.size) ∧ er (VT.mk o kids) = T ∧ Jr w' b ⟨#[]⟩ lg1 un1 ∧ But W.heap.size b W w')
    (km : ∀ o kids W, Below w.heap.size w W → (VT.mk o kids).In W → er (VT.mk o kids) = T → Calls Tryz.prog 12 #[V10 o.kind o.g (lb 0 o.x) (lb 1 o.x) (lb 2 o.x) (lb 3 o.x) o.bits o.text o.la kids.length o.lcap o.ka o.keys.length o.kcap] W fun e w' => e = .returned (.int .i64 m) ∧ Below W.heap.size W w') :
    Calls Tryz.prog 6 #[.slice (some ⟨gg, off, none⟩) N cap] w fun e w' => e = .returned (.tuple #[V10 0 false 0 0 0 0 0 ⟨#[]⟩ none 0 0 none 0 0, .int .i64 m]) ∧ Below w.heap.size w w' := by
  have KD := Lib.hid kd
  have KM := Lib.hid km
  have hc := fun o => conv_bytes (w.alloc o) gg off cap l (hb.keep (bal (Below.refl _ w) o)) N hN
  rw [hN] at hl
  have h65 : ¬ (65536 : Int) < (N : Int) := by omega
  have HZ := Lib.hid ((Row10.new w (.int .i64 0) (.bool false) (.int .u64 0) (.int .u64 0) (.int .u64 0) (.int .u64 0) (.int .u64 0) (.string ⟨#[]⟩) (.slice none 0 0) (.slice none 0 0)).alloc (.cells #[.string (str l), .bool false, .bool false] 43))
  have HC := Lib.hid (Jr.new' (w.alloc (.cells #[.int .i64 0, .bool false, .int .u64 0, .int .u64 0, .int .u64 0, .int .u64 0, .int .u64 0, .string ⟨#[]⟩, .slice none 0 0, .slice none 0 0] 32)) (c := w.heap.size + 1) (by simp) (str l) false false)
  have HB := Lib.hid (bal (bal (Below.refl _ w) (.cells #[.int .i64 0, .bool false, .int .u64 0, .int .u64 0, .int .u64 0, .int .u64 0, .int .u64 0, .string ⟨#[]⟩, .slice none 0 0, .slice none 0 0] 32)) (.cells #[.string (str l), .bool false, .bool false] 43))
  have hne : w.heap.size ≠ w.heap.size + 1 := by omega
  have hle1 : w.heap.size ≤ w.heap.size + 1 := by omega
  clear kd hb km
  generalize str l = S at *
  go_enter Tryz.func6, Tryz.ntmps6
  go_wp2_with (first
    | (go_at_call 11; ((with_reducible refine (KD.out _ _ HB.out hle1 HC.out).mono ?_); rintro e w1 ⟨o, kids, rfl, hI, hO, hE, hj, hb⟩; have s1 : w.heap.size + 2 ≤ w1.heap.size := (by have h9 := hb.size; simp at h9; omega); have B2 : Hid (Below w.heap.size w (w1.alloc (.cells #[.int .i64 o.kind, .bool o.g, .int .u64 (lb 0 o.x), .int .u64 (lb 1 o.x), .int .u64 (lb 2 o.x), .int .u64 (lb 3 o.x), .int .u64 o.bits, .string o.text, .slice o.la kids.length o.lcap, .slice o.ka o.keys.length o.kcap] 32))) := Lib.hid (bal (below_but hle1 HB.out hb) _); have I2 : Hid ((VT.mk o kids).In (w1.alloc (.cells #[.int .i64 o.kind, .bool o.g, .int .u64 (lb 0 o.x), .int .u64 (lb 1 o.x), .int .u64 (lb 2 o.x), .int .u64 (lb 3 o.x), .int .u64 o.bits, .string o.text, .slice o.la kids.length o.lcap, .slice o.ka o.keys.length o.kcap] 32))) := Lib.hid (hI.keep (bal (Below.refl _ w1) _)); have HE := Lib.hid hE; have HO := Lib.hid hO; have A2 : Hid (Row10 (w1.alloc (.cells #[.int .i64 o.kind, .bool o.g, .int .u64 (lb 0 o.x), .int .u64 (lb 1 o.x), .int .u64 (lb 2 o.x), .int .u64 (lb 3 o.x), .int .u64 o.bits, .string o.text, .slice o.la kids.length o.lcap, .slice o.ka o.keys.length o.kcap] 32)) w.heap.size (.int .i64 0) (.bool false) (.int .u64 0) (.int .u64 0) (.int .u64 0) (.int .u64 0) (.int .u64 0) (.string ⟨#[]⟩) (.slice none 0 0) (.slice none 0 0)) := Lib.hid ((HZ.out.butJ hb hne).alloc _); have D2 : Hid (Row10 (w1.alloc (.cells #[.int .i64 o.kind, .bool o.g, .int .u64 (lb 0 o.x), .int .u64 (lb 1 o.x), .int .u64 (lb 2 o.x), .int .u64 (lb 3 o.x), .int .u64 o.bits, .string o.text, .slice o.la kids.length o.lcap, .slice o.ka o.keys.length o.kcap] 32)) w1.heap.size (.int .i64 o.kind) (.bool o.g) (.int .u64 (lb 0 o.x)) (.int .u64 (lb 1 o.x)) (.int .u64 (lb 2 o.x)) (.int .u64 (lb 3 o.x)) (.int .u64 o.bits) (.string o.text) (.slice o.la kids.length o.lcap) (.slice o.ka o.keys.length o.kcap)) := Lib.hid (Row10.new w1 (.int .i64 o.kind) (.bool o.g) (.int .u64 (lb 0 o.x)) (.int .u64 (lb 1 o.x)) (.int .u64 (lb 2 o.x)) (.int .u64 (lb 3 o.x)) (.int .u64 o.bits) (.string o.text) (.slice o.la kids.length o.lcap) (.slice o.ka o.keys.length o.kcap)); have J2 : Hid (Jr (w1.alloc (.cells #[.int .i64 o.kind, .bool o.g, .int .u64 (lb 0 o.x), .int .u64 (lb 1 o.x), .int .u64 (lb 2 o.x), .int .u64 (lb 3 o.x), .int .u64 o.bits, .string o.text, .slice o.la kids.length o.lcap, .slice o.ka o.keys.length o.kcap] 32)) (w.heap.size + 1) ⟨#[]⟩ lg1 un1) := Lib.hid (hj.alloc _); obtain ⟨d0, d1, d2, d3, d4, d5, d6, d7, d8, d9⟩ := D2.out.parts; clear hI hO hE hj hb))
    | (go_at_call 12; ((with_reducible refine (KM.out _ _ _ B2.out I2.out HE.out).mono ?_); rintro e w3 ⟨rfl, hb⟩; have B3 := Lib.hid (btr B2.out hb); have I3 := Lib.hid (I2.out.keep hb); have A3 := Lib.hid (Row10.keep hb A2.out); have D3 := Lib.hid (Row10.keep hb D2.out); have J3 := Lib.hid (J2.out.keep hb); obtain ⟨a0, a1, a2, a3, a4, a5, a6, a7, a8, a9⟩ := A3.out.parts; have al := A3.out.lt; have af := A3.out.free; obtain ⟨d0, d1, d2, d3, d4, d5, d6, d7, d8, d9⟩ := D3.out.parts; obtain ⟨p0, p1, p2, q0, q1, q2⟩ := J3.out.parts; clear hb)))
  obtain ⟨y0, y1, y2, y3, y4, y5, y6, y7, y8, y9⟩ := (A3.out.set10 (.int .i64 0) (.bool false) (.int .u64 0) (.int .u64 0) (.int .u64 0) (.int .u64 0) (.int .u64 0) (.string ⟨#[]⟩) (.slice none 0 0) (.slice none 0 0)).parts
  exact bodyPost_ret (v := .tuple #[V10 0 false 0 0 0 0 0 ⟨#[]⟩ none 0 0 none 0 0, .int .i64 m]) (by simp [results, Tryz.results6, go_sem, y0, y1, y2, y3, y4, y5, y6, y7, y8, y9]) rfl ⟨rfl, vbscJ B3.out (Nat.le_refl _) _ _ _ _ _ _ _ _ _ _⟩
set_option maxRecDepth 100000 in
set_option maxHeartbeats 1000000 in
theorem jdec_lng (l : List UInt8) (hl : l.length ≤ 65536) (gg off cap N : Nat) (hN : l.length = N) (w : World) (hb : BytesAt w gg off l) (T : VT) (un1 : Bool) 
    (kd : ∀ W b, Below w.heap.size w W → w.heap.size ≤ b → Jr W b (str l) false false → Calls Tryz.prog 11 #[.pointer (some ⟨b, 0, none⟩)] W fun e w' => ∃ (o : Own) (kids : List VT), e = .returned (.tuple #[V10 o.kind o.g (lb 0 o.x) (lb 1 o.x) (lb 2 o.x) (lb 3 o.x) o.bits o.text o.la kids.length o.lcap o.ka o.keys.length o.kcap, .bool true]) ∧ (VT.mk o kids).In w' ∧ (VT.mk o kids).Off (fun k => k < W.heap.size) ∧ er (VT.mk o kids) = T ∧ Jr w' b ⟨#[]⟩ true un1 ∧ But W.heap.size b W w')
    (km : ∀ o kids W, Below w.heap.size w W → (VT.mk o kids).In W → er (VT.mk o kids) = T → Calls Tryz.prog 12 #[V10 o.kind o.g (lb 0 o.x) (lb 1 o.x) (lb 2 o.x) (lb 3 o.x) o.bits o.text o.la kids.length o.lcap o.ka o.keys.length o.kcap] W fun e w' => e = .returned (.int .i64 0) ∧ Below W.heap.size W w') :
    Calls Tryz.prog 6 #[.slice (some ⟨gg, off, none⟩) N cap] w fun e w' => e = .returned (.tuple #[V10 0 false 0 0 0 0 0 ⟨#[]⟩ none 0 0 none 0 0, .int .i64 8]) ∧ Below w.heap.size w w' := by
  have KD := Lib.hid kd
  have KM := Lib.hid km
  have hc := fun o => conv_bytes (w.alloc o) gg off cap l (hb.keep (bal (Below.refl _ w) o)) N hN
  rw [hN] at hl
  have h65 : ¬ (65536 : Int) < (N : Int) := by omega
  have HZ := Lib.hid ((Row10.new w (.int .i64 0) (.bool false) (.int .u64 0) (.int .u64 0) (.int .u64 0) (.int .u64 0) (.int .u64 0) (.string ⟨#[]⟩) (.slice none 0 0) (.slice none 0 0)).alloc (.cells #[.string (str l), .bool false, .bool false] 43))
  have HC := Lib.hid (Jr.new' (w.alloc (.cells #[.int .i64 0, .bool false, .int .u64 0, .int .u64 0, .int .u64 0, .int .u64 0, .int .u64 0, .string ⟨#[]⟩, .slice none 0 0, .slice none 0 0] 32)) (c := w.heap.size + 1) (by simp) (str l) false false)
  have HB := Lib.hid (bal (bal (Below.refl _ w) (.cells #[.int .i64 0, .bool false, .int .u64 0, .int .u64 0, .int .u64 0, .int .u64 0, .int .u64 0, .string ⟨#[]⟩, .slice none 0 0, .slice none 0 0] 32)) (.cells #[.string (str l), .bool false, .bool false] 43))
  have hne : w.heap.size ≠ w.heap.size + 1 := by omega
  have hle1 : w.heap.size ≤ w.heap.size + 1 := by omega
  clear kd hb km
  generalize str l = S at *
  go_enter Tryz.func6, Tryz.ntmps6
  go_wp2_with (first
    | (go_at_call 11; ((with_reducible refine (KD.out _ _ HB.out hle1 HC.out).mono ?_); rintro e w1 ⟨o, kids, rfl, hI, hO, hE, hj, hb⟩; have s1 : w.heap.size + 2 ≤ w1.heap.size := (by have h9 := hb.size; simp at h9; omega); have B2 : Hid (Below w.heap.size w (w1.alloc (.cells #[.int .i64 o.kind, .bool o.g, .int .u64 (lb 0 o.x), .int .u64 (lb 1 o.x), .int .u64 (lb 2 o.x), .int .u64 (lb 3 o.x), .int .u64 o.bits, .string o.text, .slice o.la kids.length o.lcap, .slice o.ka o.keys.length o.kcap] 32))) := Lib.hid (bal (below_but hle1 HB.out hb) _); have I2 : Hid ((VT.mk o kids).In (w1.alloc (.cells #[.int .i64 o.kind, .bool o.g, .int .u64 (lb 0 o.x), .int .u64 (lb 1 o.x), .int .u64 (lb 2 o.x), .int .u64 (lb 3 o.x), .int .u64 o.bits, .string o.text, .slice o.la kids.length o.lcap, .slice o.ka o.keys.length o.kcap] 32))) := Lib.hid (hI.keep (bal (Below.refl _ w1) _)); have HE := Lib.hid hE; have HO := Lib.hid hO; have A2 : Hid (Row10 (w1.alloc (.cells #[.int .i64 o.kind, .bool o.g, .int .u64 (lb 0 o.x), .int .u64 (lb 1 o.x), .int .u64 (lb 2 o.x), .int .u64 (lb 3 o.x), .int .u64 o.bits, .string o.text, .slice o.la kids.length o.lcap, .slice o.ka o.keys.length o.kcap] 32)) w.heap.size (.int .i64 0) (.bool false) (.int .u64 0) (.int .u64 0) (.int .u64 0) (.int .u64 0) (.int .u64 0) (.string ⟨#[]⟩) (.slice none 0 0) (.slice none 0 0)) := Lib.hid ((HZ.out.butJ hb hne).alloc _); have D2 : Hid (Row10 (w1.alloc (.cells #[.int .i64 o.kind, .bool o.g, .int .u64 (lb 0 o.x), .int .u64 (lb 1 o.x), .int .u64 (lb 2 o.x), .int .u64 (lb 3 o.x), .int .u64 o.bits, .string o.text, .slice o.la kids.length o.lcap, .slice o.ka o.keys.length o.kcap] 32)) w1.heap.size (.int .i64 o.kind) (.bool o.g) (.int .u64 (lb 0 o.x)) (.int .u64 (lb 1 o.x)) (.int .u64 (lb 2 o.x)) (.int .u64 (lb 3 o.x)) (.int .u64 o.bits) (.string o.text) (.slice o.la kids.length o.lcap) (.slice o.ka o.keys.length o.kcap)) := Lib.hid (Row10.new w1 (.int .i64 o.kind) (.bool o.g) (.int .u64 (lb 0 o.x)) (.int .u64 (lb 1 o.x)) (.int .u64 (lb 2 o.x)) (.int .u64 (lb 3 o.x)) (.int .u64 o.bits) (.string o.text) (.slice o.la kids.length o.lcap) (.slice o.ka o.keys.length o.kcap)); have J2 : Hid (Jr (w1.alloc (.cells #[.int .i64 o.kind, .bool o.g, .int .u64 (lb 0 o.x), .int .u64 (lb 1 o.x), .int .u64 (lb 2 o.x), .int .u64 (lb 3 o.x), .int .u64 o.bits, .string o.text, .slice o.la kids.length o.lcap, .slice o.ka o.keys.length o.kcap] 32)) (w.heap.size + 1) ⟨#[]⟩ true un1) := Lib.hid (hj.alloc _); obtain ⟨d0, d1, d2, d3, d4, d5, d6, d7, d8, d9⟩ := D2.out.parts; clear hI hO hE hj hb))
    | (go_at_call 12; ((with_reducible refine (KM.out _ _ _ B2.out I2.out HE.out).mono ?_); rintro e w3 ⟨rfl, hb⟩; have B3 := Lib.hid (btr B2.out hb); have I3 := Lib.hid (I2.out.keep hb); have A3 := Lib.hid (Row10.keep hb A2.out); have D3 := Lib.hid (Row10.keep hb D2.out); have J3 := Lib.hid (J2.out.keep hb); obtain ⟨a0, a1, a2, a3, a4, a5, a6, a7, a8, a9⟩ := A3.out.parts; have al := A3.out.lt; have af := A3.out.free; obtain ⟨d0, d1, d2, d3, d4, d5, d6, d7, d8, d9⟩ := D3.out.parts; obtain ⟨p0, p1, p2, q0, q1, q2⟩ := J3.out.parts; clear hb)))
  obtain ⟨y0, y1, y2, y3, y4, y5, y6, y7, y8, y9⟩ := (A3.out.set10 (.int .i64 0) (.bool false) (.int .u64 0) (.int .u64 0) (.int .u64 0) (.int .u64 0) (.int .u64 0) (.string ⟨#[]⟩) (.slice none 0 0) (.slice none 0 0)).parts
  exact bodyPost_ret (v := .tuple #[V10 0 false 0 0 0 0 0 ⟨#[]⟩ none 0 0 none 0 0, .int .i64 8]) (by simp [results, Tryz.results6, go_sem, y0, y1, y2, y3, y4, y5, y6, y7, y8, y9]) rfl ⟨rfl, vbscJ B3.out (Nat.le_refl _) _ _ _ _ _ _ _ _ _ _⟩
set_option maxRecDepth 100000 in
set_option maxHeartbeats 1000000 in
theorem jdec_unr (l : List UInt8) (hl : l.length ≤ 65536) (gg off cap N : Nat) (hN : l.length = N) (w : World) (hb : BytesAt w gg off l) (T : VT) 
    (kd : ∀ W b, Below w.heap.size w W → w.heap.size ≤ b → Jr W b (str l) false false → Calls Tryz.prog 11 #[.pointer (some ⟨b, 0, none⟩)] W fun e w' => ∃ (o : Own) (kids : List VT), e = .returned (.tuple #[V10 o.kind o.g (lb 0 o.x) (lb 1 o.x) (lb 2 o.x) (lb 3 o.x) o.bits o.text o.la kids.length o.lcap o.ka o.keys.length o.kcap, .bool true]) ∧ (VT.mk o kids).In w' ∧ (VT.mk o kids).Off (fun k => k < W.heap.size) ∧ er (VT.mk o kids) = T ∧ Jr w' b ⟨#[]⟩ false true ∧ But W.heap.size b W w')
    (km : ∀ o kids W, Below w.heap.size w W → (VT.mk o kids).In W → er (VT.mk o kids) = T → Calls Tryz.prog 12 #[V10 o.kind o.g (lb 0 o.x) (lb 1 o.x) (lb 2 o.x) (lb 3 o.x) o.bits o.text o.la kids.length o.lcap o.ka o.keys.length o.kcap] W fun e w' => e = .returned (.int .i64 0) ∧ Below W.heap.size W w') :
    Calls Tryz.prog 6 #[.slice (some ⟨gg, off, none⟩) N cap] w fun e w' => e = .returned (.tuple #[V10 0 false 0 0 0 0 0 ⟨#[]⟩ none 0 0 none 0 0, .int .i64 5]) ∧ Below w.heap.size w w' := by
  have KD := Lib.hid kd
  have KM := Lib.hid km
  have hc := fun o => conv_bytes (w.alloc o) gg off cap l (hb.keep (bal (Below.refl _ w) o)) N hN
  rw [hN] at hl
  have h65 : ¬ (65536 : Int) < (N : Int) := by omega
  have HZ := Lib.hid ((Row10.new w (.int .i64 0) (.bool false) (.int .u64 0) (.int .u64 0) (.int .u64 0) (.int .u64 0) (.int .u64 0) (.string ⟨#[]⟩) (.slice none 0 0) (.slice none 0 0)).alloc (.cells #[.string (str l), .bool false, .bool false] 43))
  have HC := Lib.hid (Jr.new' (w.alloc (.cells #[.int .i64 0, .bool false, .int .u64 0, .int .u64 0, .int .u64 0, .int .u64 0, .int .u64 0, .string ⟨#[]⟩, .slice none 0 0, .slice none 0 0] 32)) (c := w.heap.size + 1) (by simp) (str l) false false)
  have HB := Lib.hid (bal (bal (Below.refl _ w) (.cells #[.int .i64 0, .bool false, .int .u64 0, .int .u64 0, .int .u64 0, .int .u64 0, .int .u64 0, .string ⟨#[]⟩, .slice none 0 0, .slice none 0 0] 32)) (.cells #[.string (str l), .bool false, .bool false] 43))
  have hne : w.heap.size ≠ w.heap.size + 1 := by omega
  have hle1 : w.heap.size ≤ w.heap.size + 1 := by omega
  clear kd hb km
  generalize str l = S at *
  go_enter Tryz.func6, Tryz.ntmps6
  go_wp2_with (first
    | (go_at_call 11; ((with_reducible refine (KD.out _ _ HB.out hle1 HC.out).mono ?_); rintro e w1 ⟨o, kids, rfl, hI, hO, hE, hj, hb⟩; have s1 : w.heap.size + 2 ≤ w1.heap.size := (by have h9 := hb.size; simp at h9; omega); have B2 : Hid (Below w.heap.size w (w1.alloc (.cells #[.int .i64 o.kind, .bool o.g, .int .u64 (lb 0 o.x), .int .u64 (lb 1 o.x), .int .u64 (lb 2 o.x), .int .u64 (lb 3 o.x), .int .u64 o.bits, .string o.text, .slice o.la kids.length o.lcap, .slice o.ka o.keys.length o.kcap] 32))) := Lib.hid (bal (below_but hle1 HB.out hb) _); have I2 : Hid ((VT.mk o kids).In (w1.alloc (.cells #[.int .i64 o.kind, .bool o.g, .int .u64 (lb 0 o.x), .int .u64 (lb 1 o.x), .int .u64 (lb 2 o.x), .int .u64 (lb 3 o.x), .int .u64 o.bits, .string o.text, .slice o.la kids.length o.lcap, .slice o.ka o.keys.length o.kcap] 32))) := Lib.hid (hI.keep (bal (Below.refl _ w1) _)); have HE := Lib.hid hE; have HO := Lib.hid hO; have A2 : Hid (Row10 (w1.alloc (.cells #[.int .i64 o.kind, .bool o.g, .int .u64 (lb 0 o.x), .int .u64 (lb 1 o.x), .int .u64 (lb 2 o.x), .int .u64 (lb 3 o.x), .int .u64 o.bits, .string o.text, .slice o.la kids.length o.lcap, .slice o.ka o.keys.length o.kcap] 32)) w.heap.size (.int .i64 0) (.bool false) (.int .u64 0) (.int .u64 0) (.int .u64 0) (.int .u64 0) (.int .u64 0) (.string ⟨#[]⟩) (.slice none 0 0) (.slice none 0 0)) := Lib.hid ((HZ.out.butJ hb hne).alloc _); have D2 : Hid (Row10 (w1.alloc (.cells #[.int .i64 o.kind, .bool o.g, .int .u64 (lb 0 o.x), .int .u64 (lb 1 o.x), .int .u64 (lb 2 o.x), .int .u64 (lb 3 o.x), .int .u64 o.bits, .string o.text, .slice o.la kids.length o.lcap, .slice o.ka o.keys.length o.kcap] 32)) w1.heap.size (.int .i64 o.kind) (.bool o.g) (.int .u64 (lb 0 o.x)) (.int .u64 (lb 1 o.x)) (.int .u64 (lb 2 o.x)) (.int .u64 (lb 3 o.x)) (.int .u64 o.bits) (.string o.text) (.slice o.la kids.length o.lcap) (.slice o.ka o.keys.length o.kcap)) := Lib.hid (Row10.new w1 (.int .i64 o.kind) (.bool o.g) (.int .u64 (lb 0 o.x)) (.int .u64 (lb 1 o.x)) (.int .u64 (lb 2 o.x)) (.int .u64 (lb 3 o.x)) (.int .u64 o.bits) (.string o.text) (.slice o.la kids.length o.lcap) (.slice o.ka o.keys.length o.kcap)); have J2 : Hid (Jr (w1.alloc (.cells #[.int .i64 o.kind, .bool o.g, .int .u64 (lb 0 o.x), .int .u64 (lb 1 o.x), .int .u64 (lb 2 o.x), .int .u64 (lb 3 o.x), .int .u64 o.bits, .string o.text, .slice o.la kids.length o.lcap, .slice o.ka o.keys.length o.kcap] 32)) (w.heap.size + 1) ⟨#[]⟩ false true) := Lib.hid (hj.alloc _); obtain ⟨d0, d1, d2, d3, d4, d5, d6, d7, d8, d9⟩ := D2.out.parts; clear hI hO hE hj hb))
    | (go_at_call 12; ((with_reducible refine (KM.out _ _ _ B2.out I2.out HE.out).mono ?_); rintro e w3 ⟨rfl, hb⟩; have B3 := Lib.hid (btr B2.out hb); have I3 := Lib.hid (I2.out.keep hb); have A3 := Lib.hid (Row10.keep hb A2.out); have D3 := Lib.hid (Row10.keep hb D2.out); have J3 := Lib.hid (J2.out.keep hb); obtain ⟨a0, a1, a2, a3, a4, a5, a6, a7, a8, a9⟩ := A3.out.parts; have al := A3.out.lt; have af := A3.out.free; obtain ⟨d0, d1, d2, d3, d4, d5, d6, d7, d8, d9⟩ := D3.out.parts; obtain ⟨p0, p1, p2, q0, q1, q2⟩ := J3.out.parts; clear hb)))
  obtain ⟨y0, y1, y2, y3, y4, y5, y6, y7, y8, y9⟩ := (A3.out.set10 (.int .i64 0) (.bool false) (.int .u64 0) (.int .u64 0) (.int .u64 0) (.int .u64 0) (.int .u64 0) (.string ⟨#[]⟩) (.slice none 0 0) (.slice none 0 0)).parts
  exact bodyPost_ret (v := .tuple #[V10 0 false 0 0 0 0 0 ⟨#[]⟩ none 0 0 none 0 0, .int .i64 5]) (by simp [results, Tryz.results6, go_sem, y0, y1, y2, y3, y4, y5, y6, y7, y8, y9]) rfl ⟨rfl, vbscJ B3.out (Nat.le_refl _) _ _ _ _ _ _ _ _ _ _⟩
set_option maxRecDepth 100000 in
set_option maxHeartbeats 1000000 in
theorem jdec_ok (l : List UInt8) (hl : l.length ≤ 65536) (gg off cap N : Nat) (hN : l.length = N) (w : World) (hb : BytesAt w gg off l) (T : VT) 
    (kd : ∀ W b, Below w.heap.size w W → w.heap.size ≤ b → Jr W b (str l) false false → Calls Tryz.prog 11 #[.pointer (some ⟨b, 0, none⟩)] W fun e w' => ∃ (o : Own) (kids : List VT), e = .returned (.tuple #[V10 o.kind o.g (lb 0 o.x) (lb 1 o.x) (lb 2 o.x) (lb 3 o.x) o.bits o.text o.la kids.length o.lcap o.ka o.keys.length o.kcap, .bool true]) ∧ (VT.mk o kids).In w' ∧ (VT.mk o kids).Off (fun k => k < W.heap.size) ∧ er (VT.mk o kids) = T ∧ Jr w' b ⟨#[]⟩ false false ∧ But W.heap.size b W w')
    (km : ∀ o kids W, Below w.heap.size w W → (VT.mk o kids).In W → er (VT.mk o kids) = T → Calls Tryz.prog 12 #[V10 o.kind o.g (lb 0 o.x) (lb 1 o.x) (lb 2 o.x) (lb 3 o.x) o.bits o.text o.la kids.length o.lcap o.ka o.keys.length o.kcap] W fun e w' => e = .returned (.int .i64 0) ∧ Below W.heap.size W w') :
    Calls Tryz.prog 6 #[.slice (some ⟨gg, off, none⟩) N cap] w fun e w' => ∃ (o : Own) (kids : List VT), e = .returned (.tuple #[V10 o.kind o.g (lb 0 o.x) (lb 1 o.x) (lb 2 o.x) (lb 3 o.x) o.bits o.text o.la kids.length o.lcap o.ka o.keys.length o.kcap, .int .i64 0]) ∧ (VT.mk o kids).In w' ∧ (VT.mk o kids).Off (fun k => k < w.heap.size) ∧ er (VT.mk o kids) = T ∧ Below w.heap.size w w' := by
  have KD := Lib.hid kd
  have KM := Lib.hid km
  have hc := fun o => conv_bytes (w.alloc o) gg off cap l (hb.keep (bal (Below.refl _ w) o)) N hN
  rw [hN] at hl
  have h65 : ¬ (65536 : Int) < (N : Int) := by omega
  have HZ := Lib.hid ((Row10.new w (.int .i64 0) (.bool false) (.int .u64 0) (.int .u64 0) (.int .u64 0) (.int .u64 0) (.int .u64 0) (.string ⟨#[]⟩) (.slice none 0 0) (.slice none 0 0)).alloc (.cells #[.string (str l), .bool false, .bool false] 43))
  have HC := Lib.hid (Jr.new' (w.alloc (.cells #[.int .i64 0, .bool false, .int .u64 0, .int .u64 0, .int .u64 0, .int .u64 0, .int .u64 0, .string ⟨#[]⟩, .slice none 0 0, .slice none 0 0] 32)) (c := w.heap.size + 1) (by simp) (str l) false false)
  have HB := Lib.hid (bal (bal (Below.refl _ w) (.cells #[.int .i64 0, .bool false, .int .u64 0, .int .u64 0, .int .u64 0, .int .u64 0, .int .u64 0, .string ⟨#[]⟩, .slice none 0 0, .slice none 0 0] 32)) (.cells #[.string (str l), .bool false, .bool false] 43))
  have hne : w.heap.size ≠ w.heap.size + 1 := by omega
  have hle1 : w.heap.size ≤ w.heap.size + 1 := by omega
  clear kd hb km
  generalize str l = S at *
  go_enter Tryz.func6, Tryz.ntmps6
  go_wp2_with (first
    | (go_at_call 11; ((with_reducible refine (KD.out _ _ HB.out hle1 HC.out).mono ?_); rintro e w1 ⟨o, kids, rfl, hI, hO, hE, hj, hb⟩; have s1 : w.heap.size + 2 ≤ w1.heap.size := (by have h9 := hb.size; simp at h9; omega); have B2 : Hid (Below w.heap.size w (w1.alloc (.cells #[.int .i64 o.kind, .bool o.g, .int .u64 (lb 0 o.x), .int .u64 (lb 1 o.x), .int .u64 (lb 2 o.x), .int .u64 (lb 3 o.x), .int .u64 o.bits, .string o.text, .slice o.la kids.length o.lcap, .slice o.ka o.keys.length o.kcap] 32))) := Lib.hid (bal (below_but hle1 HB.out hb) _); have I2 : Hid ((VT.mk o kids).In (w1.alloc (.cells #[.int .i64 o.kind, .bool o.g, .int .u64 (lb 0 o.x), .int .u64 (lb 1 o.x), .int .u64 (lb 2 o.x), .int .u64 (lb 3 o.x), .int .u64 o.bits, .string o.text, .slice o.la kids.length o.lcap, .slice o.ka o.keys.length o.kcap] 32))) := Lib.hid (hI.keep (bal (Below.refl _ w1) _)); have HE := Lib.hid hE; have HO := Lib.hid hO; have A2 : Hid (Row10 (w1.alloc (.cells #[.int .i64 o.kind, .bool o.g, .int .u64 (lb 0 o.x), .int .u64 (lb 1 o.x), .int .u64 (lb 2 o.x), .int .u64 (lb 3 o.x), .int .u64 o.bits, .string o.text, .slice o.la kids.length o.lcap, .slice o.ka o.keys.length o.kcap] 32)) w.heap.size (.int .i64 0) (.bool false) (.int .u64 0) (.int .u64 0) (.int .u64 0) (.int .u64 0) (.int .u64 0) (.string ⟨#[]⟩) (.slice none 0 0) (.slice none 0 0)) := Lib.hid ((HZ.out.butJ hb hne).alloc _); have D2 : Hid (Row10 (w1.alloc (.cells #[.int .i64 o.kind, .bool o.g, .int .u64 (lb 0 o.x), .int .u64 (lb 1 o.x), .int .u64 (lb 2 o.x), .int .u64 (lb 3 o.x), .int .u64 o.bits, .string o.text, .slice o.la kids.length o.lcap, .slice o.ka o.keys.length o.kcap] 32)) w1.heap.size (.int .i64 o.kind) (.bool o.g) (.int .u64 (lb 0 o.x)) (.int .u64 (lb 1 o.x)) (.int .u64 (lb 2 o.x)) (.int .u64 (lb 3 o.x)) (.int .u64 o.bits) (.string o.text) (.slice o.la kids.length o.lcap) (.slice o.ka o.keys.length o.kcap)) := Lib.hid (Row10.new w1 (.int .i64 o.kind) (.bool o.g) (.int .u64 (lb 0 o.x)) (.int .u64 (lb 1 o.x)) (.int .u64 (lb 2 o.x)) (.int .u64 (lb 3 o.x)) (.int .u64 o.bits) (.string o.text) (.slice o.la kids.length o.lcap) (.slice o.ka o.keys.length o.kcap)); have J2 : Hid (Jr (w1.alloc (.cells #[.int .i64 o.kind, .bool o.g, .int .u64 (lb 0 o.x), .int .u64 (lb 1 o.x), .int .u64 (lb 2 o.x), .int .u64 (lb 3 o.x), .int .u64 o.bits, .string o.text, .slice o.la kids.length o.lcap, .slice o.ka o.keys.length o.kcap] 32)) (w.heap.size + 1) ⟨#[]⟩ false false) := Lib.hid (hj.alloc _); obtain ⟨d0, d1, d2, d3, d4, d5, d6, d7, d8, d9⟩ := D2.out.parts; clear hI hO hE hj hb))
    | (go_at_call 12; ((with_reducible refine (KM.out _ _ _ B2.out I2.out HE.out).mono ?_); rintro e w3 ⟨rfl, hb⟩; have B3 := Lib.hid (btr B2.out hb); have I3 := Lib.hid (I2.out.keep hb); have A3 := Lib.hid (Row10.keep hb A2.out); have D3 := Lib.hid (Row10.keep hb D2.out); have J3 := Lib.hid (J2.out.keep hb); obtain ⟨a0, a1, a2, a3, a4, a5, a6, a7, a8, a9⟩ := A3.out.parts; have al := A3.out.lt; have af := A3.out.free; obtain ⟨d0, d1, d2, d3, d4, d5, d6, d7, d8, d9⟩ := D3.out.parts; obtain ⟨p0, p1, p2, q0, q1, q2⟩ := J3.out.parts; clear hb)))
  obtain ⟨y0, y1, y2, y3, y4, y5, y6, y7, y8, y9⟩ := (A3.out.set10 (.int .i64 o.kind) (.bool o.g) (.int .u64 (lb 0 o.x)) (.int .u64 (lb 1 o.x)) (.int .u64 (lb 2 o.x)) (.int .u64 (lb 3 o.x)) (.int .u64 o.bits) (.string o.text) (.slice o.la kids.length o.lcap) (.slice o.ka o.keys.length o.kcap)).parts
  refine bodyPost_ret (v := .tuple #[V10 o.kind o.g (lb 0 o.x) (lb 1 o.x) (lb 2 o.x) (lb 3 o.x) o.bits o.text o.la kids.length o.lcap o.ka o.keys.length o.kcap, .int .i64 0]) (by simp [results, Tryz.results6, go_sem, y0, y1, y2, y3, y4, y5, y6, y7, y8, y9]) rfl ?_
  have SS := ButS.set10 (S := fun k => k = w.heap.size) w3 (c := w.heap.size) rfl (.int .i64 o.kind) (.bool o.g) (.int .u64 (lb 0 o.x)) (.int .u64 (lb 1 o.x)) (.int .u64 (lb 2 o.x)) (.int .u64 (lb 3 o.x)) (.int .u64 o.bits) (.string o.text) (.slice o.la kids.length o.lcap) (.slice o.ka o.keys.length o.kcap)
  exact ⟨o, kids, rfl, SS.keep I3.out (HO.out.mono (fun k hk => by show k < _; rw [hk]; simp; omega)), HO.out.mono (fun k hk => by show k < _; simp; omega), HE.out, vbscJ B3.out (Nat.le_refl _) _ _ _ _ _ _ _ _ _ _⟩
set_option maxRecDepth 100000 in
set_option maxHeartbeats 1000000 in
theorem jdec_no (l : List UInt8) (hl : l.length ≤ 65536) (gg off cap N : Nat) (hN : l.length = N) (w : World) (hb : BytesAt w gg off l)
    (kd : ∀ W b, Below w.heap.size w W → w.heap.size ≤ b → Jr W b (str l) false false → Calls Tryz.prog 11 #[.pointer (some ⟨b, 0, none⟩)] W fun e w' => ∃ (o : Own) (kids : List VT) (s : ByteArray) (lg1 un1 : Bool), e = .returned (.tuple #[V10 o.kind o.g (lb 0 o.x) (lb 1 o.x) (lb 2 o.x) (lb 3 o.x) o.bits o.text o.la kids.length o.lcap o.ka o.keys.length o.kcap, .bool false]) ∧ Jr w' b s lg1 un1 ∧ But W.heap.size b W w') :
    Calls Tryz.prog 6 #[.slice (some ⟨gg, off, none⟩) N cap] w fun e w' => e = .returned (.tuple #[V10 0 false 0 0 0 0 0 ⟨#[]⟩ none 0 0 none 0 0, .int .i64 3]) ∧ Below w.heap.size w w' := by
  have KD := Lib.hid kd
  have hc := fun o => conv_bytes (w.alloc o) gg off cap l (hb.keep (bal (Below.refl _ w) o)) N hN
  rw [hN] at hl
  have h65 : ¬ (65536 : Int) < (N : Int) := by omega
  have HZ := Lib.hid ((Row10.new w (.int .i64 0) (.bool false) (.int .u64 0) (.int .u64 0) (.int .u64 0) (.int .u64 0) (.int .u64 0) (.string ⟨#[]⟩) (.slice none 0 0) (.slice none 0 0)).alloc (.cells #[.string (str l), .bool false, .bool false] 43))
  have HC := Lib.hid (Jr.new' (w.alloc (.cells #[.int .i64 0, .bool false, .int .u64 0, .int .u64 0, .int .u64 0, .int .u64 0, .int .u64 0, .string ⟨#[]⟩, .slice none 0 0, .slice none 0 0] 32)) (c := w.heap.size + 1) (by simp) (str l) false false)
  have HB := Lib.hid (bal (bal (Below.refl _ w) (.cells #[.int .i64 0, .bool false, .int .u64 0, .int .u64 0, .int .u64 0, .int .u64 0, .int .u64 0, .string ⟨#[]⟩, .slice none 0 0, .slice none 0 0] 32)) (.cells #[.string (str l), .bool false, .bool false] 43))
  have hne : w.heap.size ≠ w.heap.size + 1 := by omega
  have hle1 : w.heap.size ≤ w.heap.size + 1 := by omega
  clear kd hb
  generalize str l = S at *
  go_enter Tryz.func6, Tryz.ntmps6
  go_wp2_with (go_at_call 11; ((with_reducible refine (KD.out _ _ HB.out hle1 HC.out).mono ?_); rintro e w1 ⟨o, kids, s, lg1, un1, rfl, hj, hb⟩; have s1 : w.heap.size + 2 ≤ w1.heap.size := (by have h9 := hb.size; simp at h9; omega); have B2 : Hid (Below w.heap.size w (w1.alloc (.cells #[.int .i64 o.kind, .bool o.g, .int .u64 (lb 0 o.x), .int .u64 (lb 1 o.x), .int .u64 (lb 2 o.x), .int .u64 (lb 3 o.x), .int .u64 o.bits, .string o.text, .slice o.la kids.length o.lcap, .slice o.ka o.keys.length o.kcap] 32))) := Lib.hid (bal (below_but hle1 HB.out hb) _); have A2 : Hid (Row10 (w1.alloc (.cells #[.int .i64 o.kind, .bool o.g, .int .u64 (lb 0 o.x), .int .u64 (lb 1 o.x), .int .u64 (lb 2 o.x), .int .u64 (lb 3 o.x), .int .u64 o.bits, .string o.text, .slice o.la kids.length o.lcap, .slice o.ka o.keys.length o.kcap] 32)) w.heap.size (.int .i64 0) (.bool false) (.int .u64 0) (.int .u64 0) (.int .u64 0) (.int .u64 0) (.int .u64 0) (.string ⟨#[]⟩) (.slice none 0 0) (.slice none 0 0)) := Lib.hid ((HZ.out.butJ hb hne).alloc _); obtain ⟨a0, a1, a2, a3, a4, a5, a6, a7, a8, a9⟩ := A2.out.parts; have al := A2.out.lt; have af := A2.out.free; clear hj hb))
  obtain ⟨y0, y1, y2, y3, y4, y5, y6, y7, y8, y9⟩ := (A2.out.set10 (.int .i64 0) (.bool false) (.int .u64 0) (.int .u64 0) (.int .u64 0) (.int .u64 0) (.int .u64 0) (.string ⟨#[]⟩) (.slice none 0 0) (.slice none 0 0)).parts
  exact bodyPost_ret (v := .tuple #[V10 0 false 0 0 0 0 0 ⟨#[]⟩ none 0 0 none 0 0, .int .i64 3]) (by simp [results, Tryz.results6, go_sem, y0, y1, y2, y3, y4, y5, y6, y7, y8, y9]) rfl ⟨rfl, vbscJ B2.out (Nat.le_refl _) _ _ _ _ _ _ _ _ _ _⟩
end Go.Proofs.YtebfggiodhaahaaGreatDoor
end
section
namespace Go.Proofs.YtebfggiodhaahaaGreatDoor
open Go.RowKit Go.Shelf
set_option linter.unusedVariables false

theorem er_len (o : Own) (kids : List VT) : (er (.mk o kids)).kids.length = kids.length := by
  rw [er_mk]
  exact List.length_map ..
theorem er_depth : ∀ T : VT, (er T).depth = T.depth := by
  intro T
  induction T using VT.ind with
  | h o kids ih =>
    rw [er_mk, VT.depth_mk, VT.depth_mk, List.map_map]
    congr 2
    exact List.map_congr_left (fun t ht => ih t ht)
theorem er_nodes : ∀ T : VT, (er T).nodes = T.nodes := by
  intro T
  induction T using VT.ind with
  | h o kids ih =>
    rw [er_mk, VT.nodes_mk, VT.nodes_mk, List.map_map]
    congr 2
    exact List.map_congr_left (fun t ht => ih t ht)
theorem er_hasT (p : VT → Bool) (hp : ∀ T, p (er T) = p T) : ∀ T : VT, hasT p (er T) = hasT p T := by
  intro T
  induction T using VT.ind with
  | h o kids ih =>
    rw [hasT_mk, hasT_mk p (.mk o kids), hp]
    congr 1
    rw [er_mk]
    show (kids.map er).any (hasT p) = kids.any (hasT p)
    rw [List.any_map]
    have : ∀ l : List VT, (∀ t ∈ l, hasT p (er t) = hasT p t) → l.any (hasT p ∘ er) = l.any (hasT p) := by
      intro l
      induction l with
      | nil => intro _; rfl
      | cons a l ih2 =>
        intro h
        rw [List.any_cons, List.any_cons, ih2 (fun t ht => h t (List.mem_cons_of_mem _ ht))]
        congr 1
        exact h a (List.mem_cons_self ..)
    exact this kids ih
theorem er_over (T : VT) : overT (er T) = overT T := by
  obtain ⟨o, kids⟩ := T
  unfold overT
  rw [er_len]
  rw [er_mk]
  rfl
theorem er_wrong (T : VT) : wrongT (er T) = wrongT T := by
  obtain ⟨o, kids⟩ := T
  unfold wrongT
  rw [er_len]
  rw [er_mk]
  rfl
theorem er_may (T : VT) : mayN (er T) = mayN T := by
  unfold mayN
  rw [er_depth, er_hasT _ er_over, er_hasT _ er_wrong]
theorem er_small : ∀ {T : VT}, (er T).Every SmallO → T.Every SmallO := by
  intro T
  induction T using VT.ind with
  | h o kids ih =>
    intro h
    rw [er_mk] at h
    exact .mk o kids h.own (fun t ht => ih t ht (h.mem (List.mem_map_of_mem ht)))
theorem er_jenc : ∀ T : VT, jencT (er T) = jencT T := by
  intro T
  induction T using VT.ind with
  | h o kids ih =>
    rw [er_mk, jencT_mk, jencT_mk, List.map_map]
    have : kids.map (jencT ∘ er) = kids.map jencT := List.map_congr_left (fun t ht => ih t ht)
    rw [this]
    rfl
section
variable (l : List UInt8) (hl : l.length ≤ 65536) (gg off cap N : Nat) (hN : l.length = N) (w : World) (hb : BytesAt w gg off l) (hT : Tb w) (T : VT) (r : List UInt8) (hend : jskip r = []) (hn : T.nodes ≤ 10000) (hs : T.Every SmallO)
include hl hN hb hT hend hn hs
theorem jdec_good (hv : JV l T r false false) (hm : mayN T = 0) : Calls Tryz.prog 6 #[.slice (some ⟨gg, off, none⟩) N cap] w fun e w' => ∃ (o : Own) (kids : List VT), e = .returned (.tuple #[(VT.mk o kids).val, .int .i64 0]) ∧ (VT.mk o kids).In w' ∧ (VT.mk o kids).Off (fun k => k < w.heap.size) ∧ er (VT.mk o kids) = T ∧ Below w.heap.size w w' := by
  refine jdec_ok l hl gg off cap N hN w hb T (fun W b hB hbb hW => ?_) (fun o kids W hB hI hE => ?_)
  · have := rdoc_jv w b hbb hT l T r false false (by omega) hv hend false false W hB hW
    exact this
  · have h1 := vmay (.mk o kids) (by rw [← er_nodes, hE]; exact hn) W ⟨hI, tb_on hT hB, er_small (by rw [hE]; exact hs)⟩
    rw [← er_may, hE, hm] at h1
    exact h1
theorem jdec_long (un : Bool) (hv : JV l T r true un) (hm : mayN T = 0) : Calls Tryz.prog 6 #[.slice (some ⟨gg, off, none⟩) N cap] w fun e w' => e = .returned (.tuple #[V10 0 false 0 0 0 0 0 ⟨#[]⟩ none 0 0 none 0 0, .int .i64 8]) ∧ Below w.heap.size w w' := by
  refine jdec_lng l hl gg off cap N hN w hb T un (fun W b hB hbb hW => ?_) (fun o kids W hB hI hE => ?_)
  · have := rdoc_jv w b hbb hT l T r true un (by omega) hv hend false false W hB hW
    rw [Bool.false_or, Bool.false_or] at this
    exact this
  · have h1 := vmay (.mk o kids) (by rw [← er_nodes, hE]; exact hn) W ⟨hI, tb_on hT hB, er_small (by rw [hE]; exact hs)⟩
    rw [← er_may, hE, hm] at h1
    exact h1
end
end Go.Proofs.YtebfggiodhaahaaGreatDoor
end
section
namespace Go.Proofs.YtebfggiodhaahaaGreatDoor
open Go.RowKit Go.Shelf
set_option linter.unusedVariables false

/-- [1,2.5e0,"\u00e9"] -/
def tdl1 : List UInt8 := [91, 49, 44, 50, 46, 53, 101, 48, 44, 34, 92, 117, 48, 48, 101, 57, 34, 93]
def tdT : VT := arrE [lf 3 false 1 0 ⟨#[]⟩, lf 4 false 0 4612811918334230528 ⟨#[]⟩, lf 5 false 0 0 (str [195, 169])]
theorem td1 : dpans [49] = .tuple #[VV 3 false 1 0, .int .i64 0] := by
  rw [show dpans [49] = dpv false 1 0 from by
    unfold dpans
    rw [if_neg (by decide), show rd [49] = some (false, [49], 0) from by decide +kernel]
    simp only
    rw [if_neg (by decide), show parseN (str [49]) = some 1 from by decide +kernel]]
  unfold dpv
  rw [if_pos (by decide), if_pos (by decide +kernel), show (1 : Nat) * 10 ^ (0 : Int).toNat = 1 from by decide +kernel]
theorem td2 : dpans [50, 46, 53, 101, 48] = .tuple #[VV 4 false 0 4612811918334230528, .int .i64 0] := by
  rw [show dpans [50, 46, 53, 101, 48] = dpv false 25 (-1) from by
    unfold dpans
    rw [if_neg (by decide), show rd [50, 46, 53, 101, 48] = some (false, [50, 53], -1) from by decide +kernel]
    simp only
    rw [if_neg (by decide), show parseN (str [50, 53]) = some 25 from by decide +kernel]]
  unfold dpv
  rw [if_neg (by decide), show plv false 25 (-1) = some 4612811918334230528 from by decide +kernel]
  rfl
theorem jv_td : JV tdl1 tdT [] false false := by
  refine .arr (t := [49, 44, 50, 46, 53, 101, 48, 44, 34, 92, 117, 48, 48, 101, 57, 34, 93]) (by decide +kernel) (by decide +kernel) ?_
  refine .more (r1 := [44, 50, 46, 53, 101, 48, 44, 34, 92, 117, 48, 48, 101, 57, 34, 93]) (t2 := [50, 46, 53, 101, 48, 44, 34, 92, 117, 48, 48, 101, 57, 34, 93]) (lg := false) (un := false) (lg2 := false) (un2 := false) ?_ (by decide +kernel) (by decide +kernel) ?_
  · have h := JV.num (l := [49, 44, 50, 46, 53, 101, 48, 44, 34, 92, 117, 48, 48, 101, 57, 34, 93]) (t := [44, 50, 46, 53, 101, 48, 44, 34, 92, 117, 48, 48, 101, 57, 34, 93]) (c := 49) (k := 3) (g := false) (x := 1) (y := 0) (by decide +kernel) (by decide +kernel) (Or.inl rfl) (by decide) (by omega) (by
      rw [show ([49, 44, 50, 46, 53, 101, 48, 44, 34, 92, 117, 48, 48, 101, 57, 34, 93] : List UInt8).take (nsz [49, 44, 50, 46, 53, 101, 48, 44, 34, 92, 117, 48, 48, 101, 57, 34, 93]) = [49] from by decide +kernel]
      exact td1)
    rw [show ([49, 44, 50, 46, 53, 101, 48, 44, 34, 92, 117, 48, 48, 101, 57, 34, 93] : List UInt8).drop (nsz [49, 44, 50, 46, 53, 101, 48, 44, 34, 92, 117, 48, 48, 101, 57, 34, 93]) = [44, 50, 46, 53, 101, 48, 44, 34, 92, 117, 48, 48, 101, 57, 34, 93] from by decide +kernel] at h
    exact h
  refine .more (r1 := [44, 34, 92, 117, 48, 48, 101, 57, 34, 93]) (t2 := [34, 92, 117, 48, 48, 101, 57, 34, 93]) (lg := false) (un := false) (lg2 := false) (un2 := false) ?_ (by decide +kernel) (by decide +kernel) ?_
  · have h := JV.num (l := [50, 46, 53, 101, 48, 44, 34, 92, 117, 48, 48, 101, 57, 34, 93]) (t := [46, 53, 101, 48, 44, 34, 92, 117, 48, 48, 101, 57, 34, 93]) (c := 50) (k := 4) (g := false) (x := 0) (y := 4612811918334230528) (by decide +kernel) (by decide +kernel) (Or.inr rfl) (by decide) (by omega) (by
      rw [show ([50, 46, 53, 101, 48, 44, 34, 92, 117, 48, 48, 101, 57, 34, 93] : List UInt8).take (nsz [50, 46, 53, 101, 48, 44, 34, 92, 117, 48, 48, 101, 57, 34, 93]) = [50, 46, 53, 101, 48] from by decide +kernel]
      exact td2)
    rw [show ([50, 46, 53, 101, 48, 44, 34, 92, 117, 48, 48, 101, 57, 34, 93] : List UInt8).drop (nsz [50, 46, 53, 101, 48, 44, 34, 92, 117, 48, 48, 101, 57, 34, 93]) = [44, 34, 92, 117, 48, 48, 101, 57, 34, 93] from by decide +kernel] at h
    exact h
  refine .last (r1 := [93]) (lg := false) (un := false) ?_ (by decide +kernel) (by decide +kernel)
  exact .txt (t := [92, 117, 48, 48, 101, 57, 34, 93]) (x := [195, 169]) 20 (by decide +kernel) (by decide +kernel)
theorem td_nodes : tdT.nodes ≤ 10000 := by
  unfold tdT arrE lf
  simp only [VT.nodes_mk, List.map_cons, List.map_nil, List.sum_cons, List.sum_nil]
  omega
theorem td_small : tdT.Every SmallO := by
  refine .mk _ _ ⟨Nat.zero_le _, fun s h => by cases h⟩ (fun t ht => ?_)
  simp only [List.mem_cons, List.not_mem_nil, or_false] at ht
  rcases ht with rfl | rfl | rfl
  · exact .mk _ _ ⟨Nat.zero_le _, fun s h => by cases h⟩ (fun t h => by cases h)
  · exact .mk _ _ ⟨Nat.zero_le _, fun s h => by cases h⟩ (fun t h => by cases h)
  · exact .mk _ _ ⟨by show (str [195, 169]).size ≤ _; rw [str_size]; decide, fun s h => by cases h⟩ (fun t h => by cases h)
theorem td_may : mayN tdT = 0 := by
  unfold mayN tdT arrE lf
  simp only [VT.depth_mk, hasT_mk, List.map_cons, List.map_nil, VT.kids, List.any_cons, List.any_nil]
  decide +kernel
theorem td_json : hasT notJsonT tdT = false := by
  unfold tdT arrE lf
  simp only [hasT_mk, VT.kids, List.any_cons, List.any_nil]
  decide +kernel
theorem td_enc : jencT tdT = [91, 49, 44, 50, 46, 53, 44, 34, 195, 169, 34, 93] := by
  unfold tdT arrE lf
  simp only [jencT_mk, List.map_cons, List.map_nil]
  decide +kernel
end Go.Proofs.YtebfggiodhaahaaGreatDoor
end
section
namespace Go.Proofs.YtebfggiodhaahaaGreatDoor
open Go.RowKit Go.Shelf
set_option linter.unusedVariables false
attribute [local go_sem ↓] eql_nat neq_nat eql_int5 neq_int5

theorem bytes_at (W : World) (l : List UInt8) (c : Array Value) (fr : Nat × Nat) (g : Nat) (hg : g = W.heap.size) (hc : c.toList = U8s l) : BytesAt (W.alloc (.cells c 5 fr)) g 0 l := by
  intro i b hi
  rw [Nat.zero_add, Joins.cell_alloc_mark_at W c 5 fr g i hg]
  have : c.toList[i]? = some (.int .u8 (b.toNat : Int)) := by rw [hc]; unfold U8s; rw [List.getElem?_map, hi]; rfl
  simpa using this
set_option maxRecDepth 100000 in
set_option maxHeartbeats 4000000 in
theorem told7_core (w : World)
    (k1 : ∀ W g, Below w.heap.size w W → BytesAt W g 0 [91, 49, 44, 50, 46, 53, 101, 48, 44, 34, 92, 117, 48, 48, 101, 57, 34, 93] → Calls Tryz.prog 6 #[.slice (some ⟨g, 0, none⟩) 18 18] W fun e w' => ∃ gq oq lc ka kc, e = .returned (.tuple #[V10 7 false 0 0 0 0 0 ⟨#[]⟩ (some ⟨gq, oq, none⟩) 3 lc ka 0 kc, .int .i64 0]) ∧ w'.cell? ⟨gq, oq + 27, none⟩ = some (.string ⟨#[195, 169]⟩) ∧ (∀ W2, Below w'.heap.size w' W2 → Calls Tryz.prog 10 #[V10 7 false 0 0 0 0 0 ⟨#[]⟩ (some ⟨gq, oq, none⟩) 3 lc ka 0 kc] W2 fun e w2 => ∃ g2 cap, e = .returned (.tuple #[.slice (some ⟨g2, 0, none⟩) 12 cap, .int .i64 0]) ∧ BytesAt w2 g2 0 [91, 49, 44, 50, 46, 53, 44, 34, 195, 169, 34, 93] ∧ Below W2.heap.size W2 w2) ∧ Below W.heap.size W w')
    (k2 : ∀ W g, Below w.heap.size w W → BytesAt W g 0 [123, 34, 97, 34, 58, 49, 44, 34, 97, 34, 58, 50, 125] → Calls Tryz.prog 6 #[.slice (some ⟨g, 0, none⟩) 13 13] W fun e w' => e = .returned (.tuple #[V10 0 false 0 0 0 0 0 ⟨#[]⟩ none 0 0 none 0 0, .int .i64 3]) ∧ Below W.heap.size W w') :
    Calls Tryz.prog 5 #[] w fun e w' => e = .returned (.bool true) ∧ Below w.heap.size w w' := by
  have K1 := Lib.hid k1; have K2 := Lib.hid k2
  clear k1 k2
  have BN := Lib.hid bytes_at
  have kcs := Lib.run_convert_bytes_const (P := Tryz.prog) w 22 5 #[.int .u8 91, .int .u8 49, .int .u8 44, .int .u8 50, .int .u8 46, .int .u8 53, .int .u8 101, .int .u8 48, .int .u8 44, .int .u8 34, .int .u8 92, .int .u8 117, .int .u8 48, .int .u8 48, .int .u8 101, .int .u8 57, .int .u8 34, .int .u8 93] 18 18 (by kernel_rfl) (by kernel_rfl)
  have hst : (str [91, 49, 44, 50, 46, 53, 44, 34, 195, 169, 34, 93]) = ⟨#[91, 49, 44, 50, 46, 53, 44, 34, 195, 169, 34, 93]⟩ := rfl
  go_enter Tryz.func5, Tryz.ntmps5
  go_wp2_with fail
  ((with_reducible refine (K1.out _ w.heap.size (bal (Below.refl _ _) _) (BN.out _ [91, 49, 44, 50, 46, 53, 101, 48, 44, 34, 92, 117, 48, 48, 101, 57, 34, 93] #[.int .u8 91, .int .u8 49, .int .u8 44, .int .u8 50, .int .u8 46, .int .u8 53, .int .u8 101, .int .u8 48, .int .u8 44, .int .u8 34, .int .u8 92, .int .u8 117, .int .u8 48, .int .u8 48, .int .u8 101, .int .u8 57, .int .u8 34, .int .u8 93] _ _ rfl rfl)).mono ?_); rintro e w0 ⟨gq, oq, lc, ka, kc, rfl, ht0, ke0, hb0⟩)
  have B0 := Lib.hid (bal (btr (bal (Below.refl _ _) _) hb0) (.cells #[.int .i64 7, .bool false, .int .u64 0, .int .u64 0, .int .u64 0, .int .u64 0, .int .u64 0, .string ⟨#[]⟩, .slice (some ⟨gq, oq, none⟩) 3 lc, .slice ka 0 kc] 32))
  have R0 := Lib.hid (Row10.new w0 (.int .i64 7) (.bool false) (.int .u64 0) (.int .u64 0) (.int .u64 0) (.int .u64 0) (.int .u64 0) (.string ⟨#[]⟩) (.slice (some ⟨gq, oq, none⟩) 3 lc) (.slice ka 0 kc))
  have T0 := Lib.hid (cell_keep (bal (Below.refl _ w0) (.cells #[.int .i64 7, .bool false, .int .u64 0, .int .u64 0, .int .u64 0, .int .u64 0, .int .u64 0, .string ⟨#[]⟩, .slice (some ⟨gq, oq, none⟩) 3 lc, .slice ka 0 kc] 32)) ht0)
  have E0 := Lib.hid (fun W2 (h : Below (w0.alloc (.cells #[.int .i64 7, .bool false, .int .u64 0, .int .u64 0, .int .u64 0, .int .u64 0, .int .u64 0, .string ⟨#[]⟩, .slice (some ⟨gq, oq, none⟩) 3 lc, .slice ka 0 kc] 32)).heap.size (w0.alloc (.cells #[.int .i64 7, .bool false, .int .u64 0, .int .u64 0, .int .u64 0, .int .u64 0, .int .u64 0, .string ⟨#[]⟩, .slice (some ⟨gq, oq, none⟩) 3 lc, .slice ka 0 kc] 32)) W2) => ke0 W2 (btr (bal (Below.refl _ w0) (.cells #[.int .i64 7, .bool false, .int .u64 0, .int .u64 0, .int .u64 0, .int .u64 0, .int .u64 0, .string ⟨#[]⟩, .slice (some ⟨gq, oq, none⟩) 3 lc, .slice ka 0 kc] 32)) h))
  have kc2 := Joins.run_convert_bytes_const_at (P := Tryz.prog) (w0.alloc (.cells #[.int .i64 7, .bool false, .int .u64 0, .int .u64 0, .int .u64 0, .int .u64 0, .int .u64 0, .string ⟨#[]⟩, .slice (some ⟨gq, oq, none⟩) 3 lc, .slice ka 0 kc] 32)) 22 5 #[.int .u8 123, .int .u8 34, .int .u8 97, .int .u8 34, .int .u8 58, .int .u8 49, .int .u8 44, .int .u8 34, .int .u8 97, .int .u8 34, .int .u8 58, .int .u8 50, .int .u8 125] 13 13 (w0.heap.size + 1) (by simp) (by kernel_rfl) (by kernel_rfl)
  clear hb0 ht0 ke0
  go_wp2_with fail
  ((with_reducible refine (K2.out _ (w0.heap.size + 1) (bal B0.out _) (BN.out _ [123, 34, 97, 34, 58, 49, 44, 34, 97, 34, 58, 50, 125] #[.int .u8 123, .int .u8 34, .int .u8 97, .int .u8 34, .int .u8 58, .int .u8 49, .int .u8 44, .int .u8 34, .int .u8 97, .int .u8 34, .int .u8 58, .int .u8 50, .int .u8 125] _ _ (World.size_alloc _ _).symm rfl)).mono ?_); rintro e w1 ⟨rfl, hb1⟩)
  have B1 := Lib.hid (bal (btr (bal B0.out _) hb1) (.cells #[.int .i64 0, .bool false, .int .u64 0, .int .u64 0, .int .u64 0, .int .u64 0, .int .u64 0, .string ⟨#[]⟩, .slice none 0 0, .slice none 0 0] 32))
  have R1 := Lib.hid ((Row10.keep hb1 (R0.out.alloc _)).alloc (.cells #[.int .i64 0, .bool false, .int .u64 0, .int .u64 0, .int .u64 0, .int .u64 0, .int .u64 0, .string ⟨#[]⟩, .slice none 0 0, .slice none 0 0] 32))
  have T1 := Lib.hid (cell_keep (bal hb1 (.cells #[.int .i64 0, .bool false, .int .u64 0, .int .u64 0, .int .u64 0, .int .u64 0, .int .u64 0, .string ⟨#[]⟩, .slice none 0 0, .slice none 0 0] 32)) (cell_keep (bal (Below.refl _ _) (.cells #[.int .u8 123, .int .u8 34, .int .u8 97, .int .u8 34, .int .u8 58, .int .u8 49, .int .u8 44, .int .u8 34, .int .u8 97, .int .u8 34, .int .u8 58, .int .u8 50, .int .u8 125] 5 (13, 14))) T0.out))
  have E1 := Lib.hid (fun W2 (h : Below (w1.alloc (.cells #[.int .i64 0, .bool false, .int .u64 0, .int .u64 0, .int .u64 0, .int .u64 0, .int .u64 0, .string ⟨#[]⟩, .slice none 0 0, .slice none 0 0] 32)).heap.size (w1.alloc (.cells #[.int .i64 0, .bool false, .int .u64 0, .int .u64 0, .int .u64 0, .int .u64 0, .int .u64 0, .string ⟨#[]⟩, .slice none 0 0, .slice none 0 0] 32)) W2) => E0.out W2 (btr (bal (btr (bal (Below.refl _ _) (.cells #[.int .u8 123, .int .u8 34, .int .u8 97, .int .u8 34, .int .u8 58, .int .u8 49, .int .u8 44, .int .u8 34, .int .u8 97, .int .u8 34, .int .u8 58, .int .u8 50, .int .u8 125] 5 (13, 14))) hb1) (.cells #[.int .i64 0, .bool false, .int .u64 0, .int .u64 0, .int .u64 0, .int .u64 0, .int .u64 0, .string ⟨#[]⟩, .slice none 0 0, .slice none 0 0] 32)) h))
  obtain ⟨p0, p1, p2, p3, p4, p5, p6, p7, p8, p9⟩ := R1.out.parts
  clear hb1 B0 R0 T0 E0
  go_wp2_with fail
  ((with_reducible refine (E1.out _ (Below.refl _ _)).mono ?_); rintro e w3 ⟨g2, cap, rfl, hby, hb3⟩)
  have B3 := Lib.hid (btr B1.out hb3)
  have R3 := Row10.keep hb3 R1.out
  have T3 := cell_keep hb3 T1.out
  have hcv := conv_bytes w3 g2 0 cap _ hby 12 rfl
  rw [hst] at hcv
  clear hb3 B1 R1 hby T1 E1 p0 p1 p2 p3 p4 p5 p6 p7 p8 p9
  obtain ⟨p0, p1, p2, p3, p4, p5, p6, p7, p8, p9⟩ := R3.parts
  go_wp2
  go_ret
  exact ⟨rfl, B3.out⟩
end Go.Proofs.YtebfggiodhaahaaGreatDoor
end
section
namespace Go.Proofs.YtebfggiodhaahaaGreatDoor
open Go.RowKit Go.Shelf
set_option linter.unusedVariables false

theorem er_inj_shape {o : Own} {kids ks : List VT} {o' : Own} (h : er (.mk o kids) = .mk o' ks) : o.kind = o'.kind ∧ o.g = o'.g ∧ o.x = o'.x ∧ o.bits = o'.bits ∧ o.text = o'.text ∧ o.keys = o'.keys ∧ kids.map er = ks := by
  rw [er_mk] at h
  have h1 := (VT.mk.inj h).1
  have h2 := (VT.mk.inj h).2
  rw [← h1]
  exact ⟨rfl, rfl, rfl, rfl, rfl, rfl, h2⟩
theorem er_notJson (T : VT) : notJsonT (er T) = notJsonT T := by
  obtain ⟨o, kids⟩ := T
  unfold notJsonT
  rw [er_mk]
  rfl
theorem three_of {l : List VT} (h : l.length = 3) : ∃ a b c, l = [a, b, c] := by
  match l, h with
  | [a, b, c], _ => exact ⟨a, b, c, rfl⟩
def tdl2 : List UInt8 := [123, 34, 97, 34, 58, 49, 44, 34, 97, 34, 58, 50, 125]
theorem jdec_twice (w : World) (hT : Tb w) (W : World) (g : Nat) (hW : Below w.heap.size w W) (hq : BytesAt W g 0 tdl2) :
    Calls Tryz.prog 6 #[.slice (some ⟨g, 0, none⟩) 13 13] W fun e w' => e = .returned (.tuple #[V10 0 false 0 0 0 0 0 ⟨#[]⟩ none 0 0 none 0 0, .int .i64 3]) ∧ Below W.heap.size W w' := by
  have hTW := tb_on hT hW
  refine jdec_no tdl2 (by decide) g 0 13 13 rfl W hq (fun W1 b hB hbb hJ => ?_)
  refine (rdoc_no tdl2 b false false W1 hJ (fun o kids r lg2 un2 X Y => True) (fun W2 hB2 hJ2 => ?_)).mono ?_
  · refine (rv_obj tdl2 tdl2 (by decide) (by decide +kernel) b false false W2 hJ2 [34, 97, 34, 58, 49, 44, 34, 97, 34, 58, 50, 125] rfl (fun P hP => by
      simp only [List.mem_cons, List.not_mem_nil, or_false] at hP
      rcases hP with rfl | rfl | rfl | rfl | rfl <;> decide +kernel) (fun o kids ok X Y => ok = false) (fun W3 _ hB3 hJ3 => ?_)).mono ?_
    · have hW2 := below_but hbb hB hB2
      have hW3 := below_but hbb hW2 hB3
      have hv : JV [49, 44, 34, 97, 34, 58, 50, 125] (lf 3 false 1 0 ⟨#[]⟩) [44, 34, 97, 34, 58, 50, 125] false false := by
        have h := JV.num (l := [49, 44, 34, 97, 34, 58, 50, 125]) (t := [44, 34, 97, 34, 58, 50, 125]) (c := 49) (k := 3) (g := false) (x := 1) (y := 0) (by decide +kernel) (by decide +kernel) (Or.inl rfl) (by decide) (by omega) (by
          rw [show ([49, 44, 34, 97, 34, 58, 50, 125] : List UInt8).take (nsz [49, 44, 34, 97, 34, 58, 50, 125]) = [49] from by decide +kernel]
          exact td1)
        rw [show ([49, 44, 34, 97, 34, 58, 50, 125] : List UInt8).drop (nsz [49, 44, 34, 97, 34, 58, 50, 125]) = [44, 34, 97, 34, 58, 50, 125] from by decide +kernel] at h
        exact h
      refine (robj_twice W b hbb [34, 97, 34, 58, 49, 44, 34, 97, 34, 58, 50, 125] [97] [49, 44, 34, 97, 34, 58, 50, 125] _ [44, 34, 97, 34, 58, 50, 125] [34, 97, 34, 58, 50, 125] [50, 125] false false (by decide) (by decide +kernel) ⟨9, [97, 34, 58, 49, 44, 34, 97, 34, 58, 50, 125], [58, 49, 44, 34, 97, 34, 58, 50, 125], by decide +kernel, by decide +kernel, by decide +kernel⟩ (by decide) (by decide +kernel) ⟨9, [97, 34, 58, 50, 125], [58, 50, 125], by decide +kernel, by decide +kernel, by decide +kernel⟩ (jv_any W b hbb hTW 8 _ _ _ _ _ (by decide) (by decide) hv) false false W3 hW3 hJ3).mono ?_
      rintro e w' ⟨he, hj, hb⟩
      exact ⟨⟨0, false, 0, 0, ⟨#[]⟩, none, 0, none, 0, []⟩, [], false, by rw [he]; simp only [lb_zero]; rfl, rfl, hj, hb⟩
    · rintro e w' ⟨o, kids, ok, W3, X, s, lg2, un2, he, hok, hB1, hB2, hX, hw', hb, hlt, hS⟩
      subst hok
      exact ⟨o, kids, s.data.toList, lg2, un2, he, trivial, hw', hb⟩
  · rintro e w' ⟨o, kids, r, lg2, un2, W2, X, he, _, hB1, hj, hb, _⟩
    exact ⟨o, kids, _, _, _, he, hj, hb⟩
theorem told7_true (w : World) (hT : Tabs w) : Calls Tryz.prog 5 #[] w fun e w' => e = .returned (.bool true) ∧ Below w.heap.size w w' := by
  have hTb := hT.2
  refine told7_core w (fun W g hW hq => ?_) (fun W g hW hq => jdec_twice w hTb W g hW hq)
  refine (jdec_good tdl1 (by decide) g 0 18 18 rfl W hq (tb_on hTb hW) tdT [] rfl td_nodes td_small jv_td td_may).mono ?_
  rintro e w' ⟨o, kids, he, hI, hO, hE, hb⟩
  obtain ⟨e1, e2, e3, e4, e5, e6, e7⟩ := er_inj_shape (show er (.mk o kids) = .mk _ _ from hE)
  obtain ⟨k0, k1, k2, rfl⟩ := three_of (l := kids) (by have := congrArg List.length e7; simpa using this)
  obtain ⟨o2, kk2⟩ := k2
  have e8 : er (.mk o2 kk2) = lf 5 false 0 0 (str [195, 169]) := by
    have := congrArg (fun l => l[2]?) e7
    simpa using this
  obtain ⟨_, _, _, _, f5, _, _⟩ := er_inj_shape (show er (.mk o2 kk2) = .mk _ _ from e8)
  obtain ⟨gq, oq, h1, h2⟩ := hI.hl
  have hla : o.la = some ⟨gq, oq, none⟩ := h1 (by show 0 < 3; omega)
  have hc := h2 2 (.mk o2 kk2) rfl
  have hval : (VT.mk o [k0, k1, .mk o2 kk2]).val = V10 7 false 0 0 0 0 0 ⟨#[]⟩ (some ⟨gq, oq, none⟩) 3 o.lcap o.ka 0 o.kcap := by
    rw [val_eq, e1, e2, e3, e4, e5, e6, hla]
    simp only [lb_zero]
    rfl
  refine ⟨gq, oq, o.lcap, o.ka, o.kcap, by rw [he, hval], ?_, ?_, hb⟩
  · have := hc 7 (.string o2.text) rfl
    rw [f5] at this
    exact this
  · intro W2 h3
    have hn : (VT.mk o [k0, k1, .mk o2 kk2]).nodes ≤ 10000 := by rw [← er_nodes, hE]; exact td_nodes
    have hj := jenc_any (.mk o [k0, k1, .mk o2 kk2]) hn W2 ⟨hI.keep h3, tb_on (tb_on (tb_on hTb hW) hb) h3, er_small (by rw [hE]; exact td_small)⟩ (tabs_on hT (btr (btr hW hb) h3))
    rw [hval] at hj
    refine hj.mono ?_
    rintro e2 w2 ⟨hq2, hb2⟩
    have hm : mayN (VT.mk o [k0, k1, .mk o2 kk2]) = 0 := by rw [← er_may, hE]; exact td_may
    have hnj : hasT notJsonT (VT.mk o [k0, k1, .mk o2 kk2]) = false := by rw [← er_hasT _ er_notJson, hE]; exact td_json
    have hen : jencT (VT.mk o [k0, k1, .mk o2 kk2]) = [91, 49, 44, 50, 46, 53, 44, 34, 195, 169, 34, 93] := by rw [← er_jenc, hE]; exact td_enc
    rcases hq2 with ⟨h, _⟩ | ⟨_, h, _⟩ | ⟨_, _, h, _⟩ | ⟨_, _, _, g2, cap, h, _, h5⟩
    · exact absurd hm h
    · rw [hnj] at h; cases h
    · rw [hen] at h; exact absurd h (by decide)
    · rw [hen] at h h5
      exact ⟨g2, cap, h, h5, hb2⟩
end Go.Proofs.YtebfggiodhaahaaGreatDoor
end
