/-
  (*reader).object, its end there or missing; array and object of any values.
-/
import Derived.Test.YtebfggiodhaahaaGreatDoorGJ4
import Derived.Test.YtebfggiodhaahaaGreatDoorGK1
namespace Go.Proofs.YtebfggiodhaahaaGreatDoor
open Go.RowKit Go.Shelf Go.Maps Go.Sort
set_option linter.unusedVariables false

/-- Members, from the first one on. -/
inductive JOE (ok : Bool) (P : List UInt8 → VT → List UInt8 → Bool → Bool → Prop) : List UInt8 → List (List UInt8 × VT) → List UInt8 → Bool → Bool → Prop
  | last {l x r2 r3 r : List UInt8} {T : VT} {lg un : Bool} (hn : JN l x r2) (hv : P r2 T r3 lg un) (hl : r3.length < r2.length) (h : EndP 125 ok r3 r) : JOE ok P l [(x, T)] r lg un
  | more {l x r2 r3 l2 r : List UInt8} {T : VT} {kv : List (List UInt8 × VT)} {lg un lg2 un2 : Bool} (hn : JN l x r2) (hv : P r2 T r3 lg un) (hl : r3.length < r2.length) (h : jskip r3 = 44 :: l2) (ha : JOE ok P l2 kv r lg2 un2) : JOE ok P l ((x, T) :: kv) r (lg || lg2) (un || un2)
set_option maxRecDepth 100000 in
set_option maxHeartbeats 16000000 in
theorem robjE (ok : Bool) (P : List UInt8 → VT → List UInt8 → Bool → Bool → Prop) (w0 : World) (b : Nat) (hb0 : w0.heap.size ≤ b) (l r : List UInt8) (kvs : List (List UInt8 × VT)) (lg1 un1 : Bool) (hl : l.length ≤ 1000000000) (hne : Lib.hasPrefix (jskip l) [125] = false) (hjo : JOE ok P (jskip l) kvs r lg1 un1) (hnd : (kvs.map Prod.fst).Nodup)
    (ih : ∀ (t : List UInt8) (T : VT) (r1 : List UInt8) (l' u : Bool), t.length ≤ l.length → P t T r1 l' u → VC w0 b t T r1 l' u) (lg un : Bool) (w : World) (hw : Below w0.heap.size w0 w) (h : Jr w b (str l) lg un) :
    Calls Tryz.prog 40 #[.pointer (some ⟨b, 0, none⟩)] w fun e w' => VQo ok b (objO kvs) r (lg || lg1) (un || un1) w e w' := by
  have hjl := jskip_len l
  have KS : Hid (∀ W, Jr W b (str l) lg un → Calls Tryz.prog 37 #[.pointer (some ⟨b, 0, none⟩), .string ⟨#[125]⟩] W fun e w' => e = .returned (.bool false) ∧ Jr w' b (str (jskip l)) lg un ∧ But W.heap.size b W w') := Lib.hid (fun W hW => sgn_no l _ rfl ⟨#[125]⟩ (by omega) b lg un W hW hne)
  have HIH := Lib.hid ih; have HW := Lib.hid hw; have HJO := Lib.hid hjo; have HND := Lib.hid hnd
  have hbw := h.lt
  have J0 : Hid (Jr ((w.alloc (.cells #[.int .i64 0, .bool false, .int .u64 0, .int .u64 0, .int .u64 0, .int .u64 0, .int .u64 0, .string ⟨#[]⟩, .slice none 0 0, .slice none 0 0] 32)).alloc (.map #[] 0)) b (str l) lg un) := Lib.hid ((h.alloc _).alloc _)
  have B0 : Hid (But w.heap.size b w ((w.alloc (.cells #[.int .i64 0, .bool false, .int .u64 0, .int .u64 0, .int .u64 0, .int .u64 0, .int .u64 0, .string ⟨#[]⟩, .slice none 0 0, .slice none 0 0] 32)).alloc (.map #[] 0))) := Lib.hid (But.of (bal (bal (Below.refl _ _) _) _))
  have A0 : Hid (Row10 ((w.alloc (.cells #[.int .i64 0, .bool false, .int .u64 0, .int .u64 0, .int .u64 0, .int .u64 0, .int .u64 0, .string ⟨#[]⟩, .slice none 0 0, .slice none 0 0] 32)).alloc (.map #[] 0)) w.heap.size (.int .i64 0) (.bool false) (.int .u64 0) (.int .u64 0) (.int .u64 0) (.int .u64 0) (.int .u64 0) (.string ⟨#[]⟩) (.slice none 0 0) (.slice none 0 0)) := Lib.hid ((Row10.new w (.int .i64 0) (.bool false) (.int .u64 0) (.int .u64 0) (.int .u64 0) (.int .u64 0) (.int .u64 0) (.string ⟨#[]⟩) (.slice none 0 0) (.slice none 0 0)).alloc _)
  have M0 : Hid (mOwn ((w.alloc (.cells #[.int .i64 0, .bool false, .int .u64 0, .int .u64 0, .int .u64 0, .int .u64 0, .int .u64 0, .string ⟨#[]⟩, .slice none 0 0, .slice none 0 0] 32)).alloc (.map #[] 0)) (w.heap.size + 1) 0 (.map [])) := Lib.hid (by
    have h9 := World.ownsMap_made (w.alloc (.cells #[.int .i64 0, .bool false, .int .u64 0, .int .u64 0, .int .u64 0, .int .u64 0, .int .u64 0, .string ⟨#[]⟩, .slice none 0 0, .slice none 0 0] 32)) Tryz.prog 9 mR
    have h8 : (w.alloc (.cells #[.int .i64 0, .bool false, .int .u64 0, .int .u64 0, .int .u64 0, .int .u64 0, .int .u64 0, .string ⟨#[]⟩, .slice none 0 0, .slice none 0 0] 32)).heap.size = w.heap.size + 1 := by simp
    rw [h8] at h9
    exact h9)
  have hmm := @run_makeMap Tryz.prog
  clear h hne hjo hnd ih hw
  go_enter Tryz.func40, Tryz.ntmps40
  go_wp2_with (go_at_call 37; ((with_reducible refine (KS.out _ J0.out).mono ?_); rintro e w1 ⟨rfl, hj, hb⟩; have J1 := Lib.hid hj; have B1 := Lib.hid (B0.out.trans (hb.mono (by simp; omega))); have A1 := Lib.hid (A0.out.butJ hb (by omega)); have M1 : Hid (mOwn w1 (w.heap.size + 1) 0 (mpD [])) := Lib.hid (mOwn.butJ M0.out hb (by omega)); clear hj hb))
  go_loopw [5, 6, 7, 8] (fun _ _ _ _ wr => ∃ (kv rest : List (List UInt8 × VT)) (t : List UInt8) (lg2 un2 lg3 un3 : Bool), Hid (JOE ok P t rest r lg3 un3) ∧ Hid (kv.map (fun p => (p.1, er p.2)) ++ rest = kvs) ∧ Hid ((lg2 || lg3) = (lg || lg1) ∧ (un2 || un3) = (un || un1)) ∧ kv.length + t.length ≤ l.length ∧ Hid (Jr wr b (str t) lg2 un2) ∧ Hid (mOwn wr (w.heap.size + 1) kv.length (mpD kv)) ∧ Hid (Row10 wr w.heap.size (.int .i64 0) (.bool false) (.int .u64 0) (.int .u64 0) (.int .u64 0) (.int .u64 0) (.int .u64 0) (.string ⟨#[]⟩) (.slice none 0 0) (.slice none 0 0)) ∧ Hid (∀ p ∈ kv, p.2.In wr ∧ p.2.Off (fun k => k < w.heap.size + 2)) ∧ Hid (∀ p ∈ kv, p.1.length ≤ 60000000000000) ∧ Hid (But w.heap.size b w wr)) (fun _ _ _ _ wr => restJ wr b)
  case atStart => exact ⟨[], kvs, jskip l, lg, un, lg1, un1, HJO, (by show _ = _; rfl), (by show _ ∧ _; exact ⟨rfl, rfl⟩), by simp; omega, J1, M1, A1, (show Hid _ from fun p hp => by cases hp), (show Hid _ from fun p hp => by cases hp), B1⟩
  case round =>
    obtain ⟨kv, rest, t, lg2, un2, lg3, un3, HJT, HMP, HF, hlen, HJ, HM, HA, HI, HXL, HB⟩ := hrel
    clear J1 B1 A1 M1
    rename World => wr
    have HMS0 := Lib.hid (restJ_jr HJ.out)
    have sA := HA.out.lt
    have sM := HM.out.lt
    have hbb : b < wr.heap.size := HJ.out.lt
    obtain ⟨x, r2, T, r3, lgv, unv, rs, hnm, hv, hl1, hrest, htail⟩ : ∃ (x r2 : List UInt8) (T : VT) (r3 : List UInt8) (lgv unv : Bool) (rs : List (List UInt8 × VT)), JN t x r2 ∧ P r2 T r3 lgv unv ∧ r3.length < r2.length ∧ rest = (x, T) :: rs ∧ ((rs = [] ∧ EndP 125 ok r3 r ∧ lg3 = lgv ∧ un3 = unv) ∨ ∃ (l2 : List UInt8) (lg4 un4 : Bool), jskip r3 = 44 :: l2 ∧ JOE ok P l2 rs r lg4 un4 ∧ lg3 = (lgv || lg4) ∧ un3 = (unv || un4)) := by
      have h9 := HJT.out
      cases h9 with
      | last hn hv hl h => exact ⟨_, _, _, _, _, _, _, hn, hv, hl, rfl, Or.inl ⟨rfl, h, rfl, rfl⟩⟩
      | more hn hv hl h ha => exact ⟨_, _, _, _, _, _, _, hn, hv, hl, rfl, Or.inr ⟨_, _, _, h, ha, rfl, rfl⟩⟩
    have hx1 := hnm.len
    have hjr3 := jskip_len r3
    have HMS : Hid (kv.map (fun p => (p.1, er p.2)) ++ ([(x, T)] ++ rs) = kvs) := Lib.hid (by rw [← HMP.out, hrest]; rfl)
    have HNA : Hid ((kv.map Prod.fst ++ [x]).Nodup) := Lib.hid (by
      have h9 := HND.out
      rw [← HMS.out, List.map_append, List.map_append, ← List.append_assoc, List.map_map] at h9
      exact (List.nodup_append.1 h9).1)
    have HNH : Hid (Maps.has (mpD kv) (.string x) = false) := Lib.hid (mpD_hasnt (fun hm => (List.nodup_append.1 HNA.out).2.2 x hm x (by simp) rfl))
    have HXB : Hid (x.length ≤ 60000000000000) := Lib.hid (by omega)
    have KN0 : ∀ W, Jr W b (str t) lg2 un2 → Calls Tryz.prog 76 #[.pointer (some ⟨b, 0, none⟩)] W fun e w' => e = .returned (.tuple #[.string (str x), .bool true]) ∧ Jr w' b (str r2) lg2 un2 ∧ But W.heap.size b W w' := fun W hW => rname_ok t x r2 (by omega) hnm b lg2 un2 W hW
    have KN := Lib.hid KN0
    have KV0 := HIH.out r2 T r3 lgv unv (by omega) hv
    unfold VC at KV0
    have KV := Lib.hid KV0
    have HK := Lib.hid (key_of x (by omega))
    obtain ⟨X, hX⟩ : ∃ X, str x = X := ⟨_, rfl⟩
    rw [hX] at HK KN
    obtain ⟨N, hNN⟩ : ∃ N, kv.length = N := ⟨_, rfl⟩
    have HNN := Lib.hid hNN
    rw [hNN] at HM hlen
    obtain ⟨N1, hN1⟩ : ∃ N1, N + 1 = N1 := ⟨_, rfl⟩
    have HN1 := Lib.hid hN1
    have hN1l : N1 ≤ 2000000000 := by omega
    have hr3l : r3.length ≤ 1000000000 := by omega
    have hNl : N ≤ 1000000000 := by omega
    clear hv hnm hrest KN0 KV0 hX hNN hN1 HJT HMP
    rcases htail with ⟨hrs, hend, hlg, hun⟩ | ⟨l2, lg4, un4, hend, hja, hlg, hun⟩
    · have KC : Hid (∀ W lg un, Jr W b (str r3) lg un → Calls Tryz.prog 37 #[.pointer (some ⟨b, 0, none⟩), .string ⟨#[44]⟩] W fun e w' => e = .returned (.bool false) ∧ Jr w' b (str (jskip r3)) lg un ∧ But W.heap.size b W w') := Lib.hid (fun W lg un hW => sgn_no r3 _ rfl ⟨#[44]⟩ (by omega) b _ _ W hW (hend.no (by decide)))
      have KE : Hid (∀ W lg un, Jr W b (str (jskip r3)) lg un → Calls Tryz.prog 37 #[.pointer (some ⟨b, 0, none⟩), .string ⟨#[125]⟩] W fun e w' => e = .returned (.bool ok) ∧ Jr w' b (str r) lg un ∧ But W.heap.size b W w') := Lib.hid (fun W lg un hW => hend.sign (by omega) b _ _ W hW)
      have HFL : Hid ((lg2 || lgv) = (lg || lg1) ∧ (un2 || unv) = (un || un1)) := Lib.hid (by rw [← hlg, ← hun]; exact HF.out)
      have HRS := Lib.hid hrs
      clear hend hlg hun hrs
      go_wp2_with (first
        | (go_at_call 76; ((with_reducible refine (KN.out _ HJ.out).mono ?_); rintro e w2 ⟨rfl, hj, hb⟩; have J2 := Lib.hid hj; have B2 := Lib.hid (HB.out.trans (hb.mono HB.out.size)); have A2 := Lib.hid (HA.out.butJ hb (by omega)); have M2 := Lib.hid (mOwn.butJ HM.out hb (by omega)); have S2 : Hid (ButS (fun k => k < w.heap.size + 2) wr w2) := Lib.hid (ButS.but hb (by show b < _; omega)); have s2 := hb.size; clear hj hb))
        | (at_lookup; refine wpList_lookup_own_ok _ rfl _ _ 95 rfl 9 32 mlaw Tryz.underlying95 mR (mzero _) (.held (V10 0 false 0 0 0 0 0 ⟨#[]⟩ none 0 0 none 0 0)) [] rfl (w.heap.size + 1) N (mpD kv) rfl M2.out _ (.string x) rfl HK.out ?_; intro v ps hv; obtain rfl := mR_inv hv (u := V10 0 false 0 0 0 0 0 ⟨#[]⟩ none 0 0 none 0 0) (atKey_of_not_has HNH.out _); clear hv; rw [HNH.out]; have J3 : Hid (Jr (w2.alloc (.cells #[.int .i64 0, .bool false, .int .u64 0, .int .u64 0, .int .u64 0, .int .u64 0, .int .u64 0, .string ⟨#[]⟩, .slice none 0 0, .slice none 0 0] 32)) b (str r2) lg2 un2) := Lib.hid (J2.out.alloc _); have B3 : Hid (But w.heap.size b w (w2.alloc (.cells #[.int .i64 0, .bool false, .int .u64 0, .int .u64 0, .int .u64 0, .int .u64 0, .int .u64 0, .string ⟨#[]⟩, .slice none 0 0, .slice none 0 0] 32))) := Lib.hid (B2.out.trans (But.ofB (bal (Below.refl _ w2) _) B2.out.size)); have A3 : Hid (Row10 (w2.alloc (.cells #[.int .i64 0, .bool false, .int .u64 0, .int .u64 0, .int .u64 0, .int .u64 0, .int .u64 0, .string ⟨#[]⟩, .slice none 0 0, .slice none 0 0] 32)) w.heap.size (.int .i64 0) (.bool false) (.int .u64 0) (.int .u64 0) (.int .u64 0) (.int .u64 0) (.int .u64 0) (.string ⟨#[]⟩) (.slice none 0 0) (.slice none 0 0)) := Lib.hid (A2.out.alloc _); have M3 : Hid (mOwn (w2.alloc (.cells #[.int .i64 0, .bool false, .int .u64 0, .int .u64 0, .int .u64 0, .int .u64 0, .int .u64 0, .string ⟨#[]⟩, .slice none 0 0, .slice none 0 0] 32)) (w.heap.size + 1) N (mpD kv)) := Lib.hid (World.ownsMap.alloc M2.out _); have S3 : Hid (ButS (fun k => k < w.heap.size + 2) wr (w2.alloc (.cells #[.int .i64 0, .bool false, .int .u64 0, .int .u64 0, .int .u64 0, .int .u64 0, .int .u64 0, .string ⟨#[]⟩, .slice none 0 0, .slice none 0 0] 32))) := Lib.hid (S2.out.trans (ButS.below (bal (Below.refl _ w2) _))))
        | (go_at_call 17; ((with_reducible refine (KV.out lg2 un2 _ (below_but hb0 HW.out B3.out) J3.out).mono ?_); rintro e w4 ⟨o, kids, rfl, hIn, hOff, hEr, hj, hb⟩; have J4 := Lib.hid hj; have B4 := Lib.hid (B3.out.trans (hb.mono B3.out.size)); have A4 := Lib.hid (A3.out.butJ hb (by omega)); have M4 := Lib.hid (mOwn.butJ M3.out hb (by omega)); have s4 := hb.size; have S4 : Hid (ButS (fun k => k < w.heap.size + 2) wr w4) := Lib.hid (S3.out.trans (ButS.but hb (by show b < _; omega))); have I4 := Lib.hid hIn; have O4 : Hid ((VT.mk o kids).Off (fun k => k < w.heap.size + 2)) := Lib.hid (hOff.mono (fun k hk => by have := A3.out.lt; have := M3.out.lt; have hk9 : k < w.heap.size + 2 := hk; show k < _; omega)); have E4 := Lib.hid hEr; clear hIn hOff hEr hj hb))
        | (at_mapUpdate; refine wpList_mapUpdate_own _ rfl _ _ _ 95 rfl 9 32 mlaw Tryz.underlying95 mR (w.heap.size + 1) N (mpD kv) rfl M4.out (by unfold maxLen; omega) _ (V10 o.kind o.g (lb 0 o.x) (lb 1 o.x) (lb 2 o.x) (lb 3 o.x) o.bits o.text o.la kids.length o.lcap o.ka o.keys.length o.kcap) (.string x) rfl rfl HK.out (.held (V10 o.kind o.g (lb 0 o.x) (lb 1 o.x) (lb 2 o.x) (lb 3 o.x) o.bits o.text o.la kids.length o.lcap o.ka o.keys.length o.kcap)) [] rfl ?_; intro w5 own5 hg5; have M5 : Hid (mOwn w5 (w.heap.size + 1) (N + 1) (mpD (kv ++ [(x, VT.mk o kids)]))) := Lib.hid (by rw [mpD_snoc]; exact own5); have J5 : Hid (Jr w5 b (str r3) (lg2 || lgv) (un2 || unv)) := Lib.hid ((hg5.block b J4.out.lt (by intro e; have := Option.some.inj e; omega)).trans J4.out); have A5 : Hid (Row10 w5 w.heap.size (.int .i64 0) (.bool false) (.int .u64 0) (.int .u64 0) (.int .u64 0) (.int .u64 0) (.int .u64 0) (.string ⟨#[]⟩) (.slice none 0 0) (.slice none 0 0)) := Lib.hid ((hg5.block _ A4.out.lt (by intro e; have := Option.some.inj e; omega)).trans A4.out); have B5 : Hid (But w.heap.size b w w5) := Lib.hid (B4.out.trans ⟨hg5.os, hg5.tape, hg5.output, hg5.size, fun k hk hkb => hg5.block k (Nat.lt_of_lt_of_le hk B4.out.size) (by intro e; have := Option.some.inj e; omega)⟩); have U5 : Hid (ButS (fun k => k < w.heap.size + 2) w4 w5) := Lib.hid (ButS.grown hg5 (fun k hk => by have := Option.some.inj hk; show k < w.heap.size + 2; omega)); have S5 := Lib.hid (S4.out.trans U5.out); clear own5 hg5)
        | (go_at_call 37; ((with_reducible refine (KC.out _ _ _ J5.out).mono ?_); rintro e w6 ⟨rfl, hj, hb⟩; have J6 := Lib.hid hj; have B6 := Lib.hid (B5.out.trans (hb.mono B5.out.size)); have A6 := Lib.hid (A5.out.butJ hb (by omega)); have M6 := Lib.hid (mOwn.butJ M5.out hb (by omega)); have U6 : Hid (ButS (fun k => k < w.heap.size + 2) w4 w6) := Lib.hid (U5.out.trans (ButS.but hb (by show b < _; omega))); have S6 := Lib.hid (S4.out.trans U6.out); have IA : Hid (∀ p ∈ (kv ++ [(x, VT.mk o kids)]), p.2.In w6 ∧ p.2.Off (fun k => k < w.heap.size + 2)) := Lib.hid (by intro p hp; rcases List.mem_append.1 hp with hp | hp; exact ⟨S6.out.keep (HI.out p hp).1 (HI.out p hp).2, (HI.out p hp).2⟩; rw [List.mem_singleton.1 hp]; exact ⟨U6.out.keep I4.out O4.out, O4.out⟩); have HL1 : Hid ((kv ++ [(x, VT.mk o kids)]).length = N1) := Lib.hid (by rw [List.length_append, HNN.out]; exact HN1.out); have HXA : Hid (∀ p ∈ (kv ++ [(x, VT.mk o kids)]), p.1.length ≤ 60000000000000) := Lib.hid (by intro p hp; rcases List.mem_append.1 hp with hp | hp; exact HXL.out p hp; rw [List.mem_singleton.1 hp]; exact HXB.out); have HND2 : Hid (((kv ++ [(x, VT.mk o kids)]).map Prod.fst).Nodup) := Lib.hid (by rw [List.map_append]; exact HNA.out); have HE2 : Hid ((kv ++ [(x, VT.mk o kids)]).map (fun p => (p.1, er p.2)) ++ rs = kvs) := Lib.hid (by rw [List.map_append, List.map_singleton, E4.out, List.append_assoc]; exact HMS.out); clear hj hb))
        | (go_at_call 75; have RO := rord_any (w.heap.size + 1) (kv ++ [(x, VT.mk o kids)]) HND2.out HXA.out (by rw [HL1.out]; omega) w6 (by rw [HL1.out, ← HN1.out]; exact M6.out) (fun p hp => (IA.out p hp).1); rw [HL1.out] at RO; (with_reducible refine RO.mono ?_); clear RO; rintro e w7 ⟨la, lc, ka, kc, rfl, hla, hka, hIt, hb⟩; have s6 := M6.out.lt; have J7 := Lib.hid (J6.out.keep hb); have A7 := Lib.hid (Row10.keep hb A6.out); have B7 := Lib.hid (B6.out.trans (But.ofB (B := b) hb B6.out.size)); have IT7 := Lib.hid hIt; have OT : Hid ((VT.mk ⟨8, false, 0, 0, ⟨#[]⟩, la, lc, ka, kc, (srt (kv ++ [(x, VT.mk o kids)])).map (fun p => str p.1)⟩ ((srt (kv ++ [(x, VT.mk o kids)])).map Prod.snd)).Off (fun k => k < w.heap.size + 2)) := Lib.hid (.mk _ _ (fun _ ad h => by have := hla ad h; show ¬ ad.block < _; omega) (fun hp ad h => by have := hka ad (by have h9 : 0 < ((srt (kv ++ [(x, VT.mk o kids)])).map (fun p => str p.1)).length := hp; rw [List.length_map, srt_length, HL1.out] at h9; exact h9) h; show ¬ ad.block < _; omega) (fun t ht => by obtain ⟨p, hp, rfl⟩ := List.mem_map.1 ht; exact (IA.out p ((srt_perm _).mem_iff.1 hp)).2)); clear hla hka hIt hb)
        | (go_at_call 37; ((with_reducible refine (KE.out _ _ _ J7.out).mono ?_); rintro e w8 ⟨rfl, hj, hb⟩; have J8 := Lib.hid hj; have B8 := Lib.hid (B7.out.trans (hb.mono B7.out.size)); have A8 := Lib.hid (A7.out.butJ hb (by omega)); have IT8 : Hid ((VT.mk ⟨8, false, 0, 0, ⟨#[]⟩, la, lc, ka, kc, (srt (kv ++ [(x, VT.mk o kids)])).map (fun p => str p.1)⟩ ((srt (kv ++ [(x, VT.mk o kids)])).map Prod.snd)).In w8) := Lib.hid ((ButS.but (S := (fun k => k < w.heap.size + 2)) hb (by show b < _; omega)).keep IT7.out OT.out); obtain ⟨a0, a1, a2, a3, a4, a5, a6, a7, a8, a9⟩ := A8.out.parts; have al := A8.out.lt; have af := A8.out.free; clear hj hb)))
      obtain ⟨z0, z1, z2, z3, z4, z5, z6, z7, z8, z9⟩ := (A8.out.set10 (.int .i64 8) (.bool false) (.int .u64 0) (.int .u64 0) (.int .u64 0) (.int .u64 0) (.int .u64 0) (.string ⟨#[]⟩) (.slice la N1 lc) (.slice ka N1 kc)).parts
      have SS := ButS.set10 (S := (fun k => k < w.heap.size + 2)) w8 (c := w.heap.size) (by show _ < _; omega) (.int .i64 8) (.bool false) (.int .u64 0) (.int .u64 0) (.int .u64 0) (.int .u64 0) (.int .u64 0) (.string ⟨#[]⟩) (.slice la N1 lc) (.slice ka N1 kc)
      have HE3 : (kv ++ [(x, VT.mk o kids)]).map (fun p => (p.1, er p.2)) = kvs := by have h9 := HE2.out; rw [HRS.out, List.append_nil] at h9; exact h9
      refine bodyPost_ret (v := .tuple #[V10 8 false 0 0 0 0 0 ⟨#[]⟩ la N1 lc ka N1 kc, .bool ok]) (by simp [results, Tryz.results40, go_sem, z0, z1, z2, z3, z4, z5, z6, z7, z8, z9]) rfl ?_
      have hK8 : ((srt (kv ++ [(x, VT.mk o kids)])).map Prod.snd).length = N1 := by rw [List.length_map, srt_length, HL1.out]
      have hK9 : ((srt (kv ++ [(x, VT.mk o kids)])).map (fun p => str p.1)).length = N1 := by rw [List.length_map, srt_length, HL1.out]
      refine ⟨⟨8, false, 0, 0, ⟨#[]⟩, la, lc, ka, kc, (srt (kv ++ [(x, VT.mk o kids)])).map (fun p => str p.1)⟩, (srt (kv ++ [(x, VT.mk o kids)])).map Prod.snd, ?_, SS.keep IT8.out OT.out, OT.out.mono (fun k hk => by show k < w.heap.size + 2; have : k < w.heap.size := hk; omega), ?_, ?_, B8.out.set10 (Nat.le_refl _) _ _ _ _ _ _ _ _ _ _⟩
      · rw [hK8]
        show _ = Ending.returned (.tuple #[V10 8 false (lb 0 0) (lb 1 0) (lb 2 0) (lb 3 0) 0 ⟨#[]⟩ la N1 lc ka ((srt (kv ++ [(x, VT.mk o kids)])).map (fun p => str p.1)).length kc, .bool ok])
        rw [hK9]
        simp only [lb_zero]
      · rw [er_objO, HE3]
      · rw [← HFL.out.1, ← HFL.out.2]
        exact J8.out.set10 (by omega) _ _ _ _ _ _ _ _ _ _
    · have KC : Hid (∀ W lg un, Jr W b (str r3) lg un → Calls Tryz.prog 37 #[.pointer (some ⟨b, 0, none⟩), .string ⟨#[44]⟩] W fun e w' => e = .returned (.bool true) ∧ Jr w' b (str l2) lg un ∧ But W.heap.size b W w') := Lib.hid (fun W lg un hW => sgn_yes r3 _ hend ⟨#[44]⟩ (by omega) b _ _ W hW l2 rfl)
      have HFL : Hid (((lg2 || lgv) || lg4) = (lg || lg1) ∧ ((un2 || unv) || un4) = (un || un1)) := Lib.hid (by have h9 := HF.out; rw [hlg, hun] at h9; rw [Bool.or_assoc, Bool.or_assoc]; exact h9)
      have HJ9 := Lib.hid hja
      have ht2 : l2.length + 1 ≤ r3.length := by have := hjr3; rw [hend, List.length_cons] at this; omega
      clear hend hlg hun hja
      go_wp2_with (first
        | (go_at_call 76; ((with_reducible refine (KN.out _ HJ.out).mono ?_); rintro e w2 ⟨rfl, hj, hb⟩; have J2 := Lib.hid hj; have B2 := Lib.hid (HB.out.trans (hb.mono HB.out.size)); have A2 := Lib.hid (HA.out.butJ hb (by omega)); have M2 := Lib.hid (mOwn.butJ HM.out hb (by omega)); have S2 : Hid (ButS (fun k => k < w.heap.size + 2) wr w2) := Lib.hid (ButS.but hb (by show b < _; omega)); have s2 := hb.size; clear hj hb))
        | (at_lookup; refine wpList_lookup_own_ok _ rfl _ _ 95 rfl 9 32 mlaw Tryz.underlying95 mR (mzero _) (.held (V10 0 false 0 0 0 0 0 ⟨#[]⟩ none 0 0 none 0 0)) [] rfl (w.heap.size + 1) N (mpD kv) rfl M2.out _ (.string x) rfl HK.out ?_; intro v ps hv; obtain rfl := mR_inv hv (u := V10 0 false 0 0 0 0 0 ⟨#[]⟩ none 0 0 none 0 0) (atKey_of_not_has HNH.out _); clear hv; rw [HNH.out]; have J3 : Hid (Jr (w2.alloc (.cells #[.int .i64 0, .bool false, .int .u64 0, .int .u64 0, .int .u64 0, .int .u64 0, .int .u64 0, .string ⟨#[]⟩, .slice none 0 0, .slice none 0 0] 32)) b (str r2) lg2 un2) := Lib.hid (J2.out.alloc _); have B3 : Hid (But w.heap.size b w (w2.alloc (.cells #[.int .i64 0, .bool false, .int .u64 0, .int .u64 0, .int .u64 0, .int .u64 0, .int .u64 0, .string ⟨#[]⟩, .slice none 0 0, .slice none 0 0] 32))) := Lib.hid (B2.out.trans (But.ofB (bal (Below.refl _ w2) _) B2.out.size)); have A3 : Hid (Row10 (w2.alloc (.cells #[.int .i64 0, .bool false, .int .u64 0, .int .u64 0, .int .u64 0, .int .u64 0, .int .u64 0, .string ⟨#[]⟩, .slice none 0 0, .slice none 0 0] 32)) w.heap.size (.int .i64 0) (.bool false) (.int .u64 0) (.int .u64 0) (.int .u64 0) (.int .u64 0) (.int .u64 0) (.string ⟨#[]⟩) (.slice none 0 0) (.slice none 0 0)) := Lib.hid (A2.out.alloc _); have M3 : Hid (mOwn (w2.alloc (.cells #[.int .i64 0, .bool false, .int .u64 0, .int .u64 0, .int .u64 0, .int .u64 0, .int .u64 0, .string ⟨#[]⟩, .slice none 0 0, .slice none 0 0] 32)) (w.heap.size + 1) N (mpD kv)) := Lib.hid (World.ownsMap.alloc M2.out _); have S3 : Hid (ButS (fun k => k < w.heap.size + 2) wr (w2.alloc (.cells #[.int .i64 0, .bool false, .int .u64 0, .int .u64 0, .int .u64 0, .int .u64 0, .int .u64 0, .string ⟨#[]⟩, .slice none 0 0, .slice none 0 0] 32))) := Lib.hid (S2.out.trans (ButS.below (bal (Below.refl _ w2) _))))
        | (go_at_call 17; ((with_reducible refine (KV.out lg2 un2 _ (below_but hb0 HW.out B3.out) J3.out).mono ?_); rintro e w4 ⟨o, kids, rfl, hIn, hOff, hEr, hj, hb⟩; have J4 := Lib.hid hj; have B4 := Lib.hid (B3.out.trans (hb.mono B3.out.size)); have A4 := Lib.hid (A3.out.butJ hb (by omega)); have M4 := Lib.hid (mOwn.butJ M3.out hb (by omega)); have s4 := hb.size; have S4 : Hid (ButS (fun k => k < w.heap.size + 2) wr w4) := Lib.hid (S3.out.trans (ButS.but hb (by show b < _; omega))); have I4 := Lib.hid hIn; have O4 : Hid ((VT.mk o kids).Off (fun k => k < w.heap.size + 2)) := Lib.hid (hOff.mono (fun k hk => by have := A3.out.lt; have := M3.out.lt; have hk9 : k < w.heap.size + 2 := hk; show k < _; omega)); have E4 := Lib.hid hEr; clear hIn hOff hEr hj hb))
        | (at_mapUpdate; refine wpList_mapUpdate_own _ rfl _ _ _ 95 rfl 9 32 mlaw Tryz.underlying95 mR (w.heap.size + 1) N (mpD kv) rfl M4.out (by unfold maxLen; omega) _ (V10 o.kind o.g (lb 0 o.x) (lb 1 o.x) (lb 2 o.x) (lb 3 o.x) o.bits o.text o.la kids.length o.lcap o.ka o.keys.length o.kcap) (.string x) rfl rfl HK.out (.held (V10 o.kind o.g (lb 0 o.x) (lb 1 o.x) (lb 2 o.x) (lb 3 o.x) o.bits o.text o.la kids.length o.lcap o.ka o.keys.length o.kcap)) [] rfl ?_; intro w5 own5 hg5; have M5 : Hid (mOwn w5 (w.heap.size + 1) (N + 1) (mpD (kv ++ [(x, VT.mk o kids)]))) := Lib.hid (by rw [mpD_snoc]; exact own5); have J5 : Hid (Jr w5 b (str r3) (lg2 || lgv) (un2 || unv)) := Lib.hid ((hg5.block b J4.out.lt (by intro e; have := Option.some.inj e; omega)).trans J4.out); have A5 : Hid (Row10 w5 w.heap.size (.int .i64 0) (.bool false) (.int .u64 0) (.int .u64 0) (.int .u64 0) (.int .u64 0) (.int .u64 0) (.string ⟨#[]⟩) (.slice none 0 0) (.slice none 0 0)) := Lib.hid ((hg5.block _ A4.out.lt (by intro e; have := Option.some.inj e; omega)).trans A4.out); have B5 : Hid (But w.heap.size b w w5) := Lib.hid (B4.out.trans ⟨hg5.os, hg5.tape, hg5.output, hg5.size, fun k hk hkb => hg5.block k (Nat.lt_of_lt_of_le hk B4.out.size) (by intro e; have := Option.some.inj e; omega)⟩); have U5 : Hid (ButS (fun k => k < w.heap.size + 2) w4 w5) := Lib.hid (ButS.grown hg5 (fun k hk => by have := Option.some.inj hk; show k < w.heap.size + 2; omega)); have S5 := Lib.hid (S4.out.trans U5.out); clear own5 hg5)
        | (go_at_call 37; ((with_reducible refine (KC.out _ _ _ J5.out).mono ?_); rintro e w6 ⟨rfl, hj, hb⟩; have J6 := Lib.hid hj; have B6 := Lib.hid (B5.out.trans (hb.mono B5.out.size)); have A6 := Lib.hid (A5.out.butJ hb (by omega)); have M6 := Lib.hid (mOwn.butJ M5.out hb (by omega)); have U6 : Hid (ButS (fun k => k < w.heap.size + 2) w4 w6) := Lib.hid (U5.out.trans (ButS.but hb (by show b < _; omega))); have S6 := Lib.hid (S4.out.trans U6.out); have IA : Hid (∀ p ∈ (kv ++ [(x, VT.mk o kids)]), p.2.In w6 ∧ p.2.Off (fun k => k < w.heap.size + 2)) := Lib.hid (by intro p hp; rcases List.mem_append.1 hp with hp | hp; exact ⟨S6.out.keep (HI.out p hp).1 (HI.out p hp).2, (HI.out p hp).2⟩; rw [List.mem_singleton.1 hp]; exact ⟨U6.out.keep I4.out O4.out, O4.out⟩); have HL1 : Hid ((kv ++ [(x, VT.mk o kids)]).length = N1) := Lib.hid (by rw [List.length_append, HNN.out]; exact HN1.out); have HXA : Hid (∀ p ∈ (kv ++ [(x, VT.mk o kids)]), p.1.length ≤ 60000000000000) := Lib.hid (by intro p hp; rcases List.mem_append.1 hp with hp | hp; exact HXL.out p hp; rw [List.mem_singleton.1 hp]; exact HXB.out); have HND2 : Hid (((kv ++ [(x, VT.mk o kids)]).map Prod.fst).Nodup) := Lib.hid (by rw [List.map_append]; exact HNA.out); have HE2 : Hid ((kv ++ [(x, VT.mk o kids)]).map (fun p => (p.1, er p.2)) ++ rs = kvs) := Lib.hid (by rw [List.map_append, List.map_singleton, E4.out, List.append_assoc]; exact HMS.out); clear hj hb)))
      go_roundw
      case rel =>
        refine ⟨(kv ++ [(x, VT.mk o kids)]), rs, l2, _, _, lg4, un4, HJ9, HE2, HFL, by rw [HL1.out]; have := HN1.out; omega, J6, ?_, A6, IA, HXA, B6⟩
        rw [HL1.out, ← HN1.out]
        exact M6
      case measure =>
        have m1 := restJ_jr J6.out
        have m2 := HMS0.out
        show restJ _ b < restJ _ b
        rw [m1, m2]
        omega
theorem jae_of {P : List UInt8 → VT → List UInt8 → Bool → Bool → Prop} {t r : List UInt8} {ks : List VT} {lg un : Bool} (h : JAP P t ks r lg un) : JAE true P t ks r lg un := by
  induction h with
  | last hv hl h => exact .last hv hl (Or.inl ⟨rfl, h⟩)
  | more hv hl h _ ih => exact .more hv hl h ih
theorem joe_of {P : List UInt8 → VT → List UInt8 → Bool → Bool → Prop} {l r : List UInt8} {kv : List (List UInt8 × VT)} {lg un : Bool} (h : JO P l kv r lg un) : JOE true P l kv r lg un := by
  induction h with
  | last hn hv hl h => exact .last hn hv hl (Or.inl ⟨rfl, h⟩)
  | more hn hv hl h _ ih => exact .more hn hv hl h ih
theorem rarrP (P : List UInt8 → VT → List UInt8 → Bool → Bool → Prop) (w0 : World) (b : Nat) (hb0 : w0.heap.size ≤ b) (t0 r : List UInt8) (ks : List VT) (lg1 un1 : Bool) (ht0 : t0.length ≤ 900000000000) (hne : Lib.hasPrefix (jskip t0) [93] = false) (hja2 : JAP P (jskip t0) ks r lg1 un1)
    (ih : ∀ (t : List UInt8) (T : VT) (r1 : List UInt8) (l u : Bool), t.length ≤ t0.length → P t T r1 l u → VC w0 b t T r1 l u) (lg un : Bool) (w : World) (hw : Below w0.heap.size w0 w) (h : Jr w b (str t0) lg un) :
    Calls Tryz.prog 39 #[.pointer (some ⟨b, 0, none⟩)] w fun e w' => VQ b (arrE ks) r (lg || lg1) (un || un1) w e w' :=
  rarrE true P w0 b hb0 t0 r ks lg1 un1 ht0 hne (jae_of hja2) ih lg un w hw h
theorem robj_any (P : List UInt8 → VT → List UInt8 → Bool → Bool → Prop) (w0 : World) (b : Nat) (hb0 : w0.heap.size ≤ b) (l r : List UInt8) (kvs : List (List UInt8 × VT)) (lg1 un1 : Bool) (hl : l.length ≤ 1000000000) (hne : Lib.hasPrefix (jskip l) [125] = false) (hjo : JO P (jskip l) kvs r lg1 un1) (hnd : (kvs.map Prod.fst).Nodup)
    (ih : ∀ (t : List UInt8) (T : VT) (r1 : List UInt8) (l' u : Bool), t.length ≤ l.length → P t T r1 l' u → VC w0 b t T r1 l' u) (lg un : Bool) (w : World) (hw : Below w0.heap.size w0 w) (h : Jr w b (str l) lg un) :
    Calls Tryz.prog 40 #[.pointer (some ⟨b, 0, none⟩)] w fun e w' => VQ b (objO kvs) r (lg || lg1) (un || un1) w e w' :=
  robjE true P w0 b hb0 l r kvs lg1 un1 hl hne (joe_of hjo) hnd ih lg un w hw h
end Go.Proofs.YtebfggiodhaahaaGreatDoor
