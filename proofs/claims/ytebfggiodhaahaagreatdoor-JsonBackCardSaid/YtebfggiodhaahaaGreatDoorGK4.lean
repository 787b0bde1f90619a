/-
  JsX JsTextN, one behind the other: a claim holds at most 60 files.
-/
import Derived.Test.YtebfggiodhaahaaGreatDoorJsEndE
import Derived.Test.YtebfggiodhaahaaGreatDoorGK2
section
namespace Go.Proofs.YtebfggiodhaahaaGreatDoor
open Go.RowKit Go.Shelf Go.Maps Go.Sort
set_option linter.unusedVariables false

set_option maxRecDepth 100000 in
set_option maxHeartbeats 4000000 in
theorem robj_nil (l r : List UInt8) (hl : l.length ≤ 60000000000000) (hr : jskip l = 125 :: r) (b : Nat) (lg un : Bool) (w : World) (h : Jr w b (str l) lg un) :
    Calls Tryz.prog 40 #[.pointer (some ⟨b, 0, none⟩)] w fun e w' => VQ b (objO []) r lg un w e w' := by
  have KS : Hid (∀ W, Jr W b (str l) lg un → Calls Tryz.prog 37 #[.pointer (some ⟨b, 0, none⟩), .string ⟨#[125]⟩] W fun e w' => e = .returned (.bool true) ∧ Jr w' b (str r) lg un ∧ But W.heap.size b W w') := Lib.hid (fun W hW => sgn_yes l _ hr ⟨#[125]⟩ (by omega) b lg un W hW r rfl)
  have hbw := h.lt
  have J0 : Hid (Jr ((w.alloc (.cells #[.int .i64 0, .bool false, .int .u64 0, .int .u64 0, .int .u64 0, .int .u64 0, .int .u64 0, .string ⟨#[]⟩, .slice none 0 0, .slice none 0 0] 32)).alloc (.map #[] 0)) b (str l) lg un) := Lib.hid ((h.alloc _).alloc _)
  have B0 : Hid (But w.heap.size b w ((w.alloc (.cells #[.int .i64 0, .bool false, .int .u64 0, .int .u64 0, .int .u64 0, .int .u64 0, .int .u64 0, .string ⟨#[]⟩, .slice none 0 0, .slice none 0 0] 32)).alloc (.map #[] 0))) := Lib.hid (But.of (bal (bal (Below.refl _ _) _) _))
  have A0 : Hid (Row10 ((w.alloc (.cells #[.int .i64 0, .bool false, .int .u64 0, .int .u64 0, .int .u64 0, .int .u64 0, .int .u64 0, .string ⟨#[]⟩, .slice none 0 0, .slice none 0 0] 32)).alloc (.map #[] 0)) w.heap.size (.int .i64 0) (.bool false) (.int .u64 0) (.int .u64 0) (.int .u64 0) (.int .u64 0) (.int .u64 0) (.string ⟨#[]⟩) (.slice none 0 0) (.slice none 0 0)) := Lib.hid ((Row10.new w (.int .i64 0) (.bool false) (.int .u64 0) (.int .u64 0) (.int .u64 0) (.int .u64 0) (.int .u64 0) (.string ⟨#[]⟩) (.slice none 0 0) (.slice none 0 0)).alloc _)
  have M0 : Hid (mOwn ((w.alloc (.cells #[.int .i64 0, .bool false, .int .u64 0, .int .u64 0, .int .u64 0, .int .u64 0, .int .u64 0, .string ⟨#[]⟩, .slice none 0 0, .slice none 0 0] 32)).alloc (.map #[] 0)) (w.heap.size + 1) 0 (.map [])) := Lib.hid (by
    have h9 := World.ownsMap_made (w.alloc (.cells #[.int .i64 0, .bool false, .int .u64 0, .int .u64 0, .int .u64 0, .int .u64 0, .int .u64 0, .string ⟨#[]⟩, .slice none 0 0, .slice none 0 0] 32)) Tryz.prog 9 mR
    have h8 : (w.alloc (.cells #[.int .i64 0, .bool false, .int .u64 0, .int .u64 0, .int .u64 0, .int .u64 0, .int .u64 0, .string ⟨#[]⟩, .slice none 0 0, .slice none 0 0] 32)).heap.size = w.heap.size + 1 := by simp
    rw [h8] at h9
    exact h9)
  have hmm := @run_makeMap Tryz.prog
  clear h hr
  go_enter Tryz.func40, Tryz.ntmps40
  go_wp2_with (first
    | (go_at_call 37; ((with_reducible refine (KS.out _ J0.out).mono ?_); rintro e w1 ⟨rfl, hj, hb⟩; have J1 := Lib.hid hj; have B1 := Lib.hid (B0.out.trans (hb.mono (by simp; omega))); have A1 := Lib.hid (A0.out.butJ hb (by omega)); have M1 : Hid (mOwn w1 (w.heap.size + 1) 0 (mpD [])) := Lib.hid (mOwn.butJ M0.out hb (by omega)); clear hj hb))
    | (go_at_call 75; have RO := rord_any (w.heap.size + 1) [] List.nodup_nil (fun p hp => by cases hp) (Nat.zero_le _) w1 M1.out (fun p hp => by cases hp); (with_reducible refine RO.mono ?_); clear RO; rintro e w7 ⟨la, lc, ka, kc, rfl, hla, hka, hIt, hb⟩; have s6 := M1.out.lt; have J7 := Lib.hid (J1.out.keep hb); have A7 := Lib.hid (Row10.keep hb A1.out); have B7 := Lib.hid (B1.out.trans (But.ofB (B := b) hb B1.out.size)); have IT7 := Lib.hid hIt; have OT : Hid ((VT.mk ⟨8, false, 0, 0, ⟨#[]⟩, la, lc, ka, kc, (srt []).map (fun p => str p.1)⟩ ((srt []).map Prod.snd)).Off (fun k => k < w.heap.size + 2)) := Lib.hid (.mk _ _ (fun hp => absurd hp (by simp [srt])) (fun hp => absurd hp (by simp [srt])) (fun t ht => by simp [srt] at ht)); obtain ⟨a0, a1, a2, a3, a4, a5, a6, a7, a8, a9⟩ := A7.out.parts; have al := A7.out.lt; have af := A7.out.free; clear hla hka hIt hb))
  obtain ⟨z0, z1, z2, z3, z4, z5, z6, z7, z8, z9⟩ := (A7.out.set10 (.int .i64 8) (.bool false) (.int .u64 0) (.int .u64 0) (.int .u64 0) (.int .u64 0) (.int .u64 0) (.string ⟨#[]⟩) (.slice la 0 lc) (.slice ka 0 kc)).parts
  have SS := ButS.set10 (S := (fun k => k < w.heap.size + 2)) w7 (c := w.heap.size) (by show _ < _; omega) (.int .i64 8) (.bool false) (.int .u64 0) (.int .u64 0) (.int .u64 0) (.int .u64 0) (.int .u64 0) (.string ⟨#[]⟩) (.slice la 0 lc) (.slice ka 0 kc)
  refine bodyPost_ret (v := .tuple #[V10 8 false 0 0 0 0 0 ⟨#[]⟩ la 0 lc ka 0 kc, .bool true]) (by simp [results, Tryz.results40, go_sem, z0, z1, z2, z3, z4, z5, z6, z7, z8, z9]) rfl ?_
  refine ⟨⟨8, false, 0, 0, ⟨#[]⟩, la, lc, ka, kc, (srt []).map (fun p => str p.1)⟩, (srt []).map Prod.snd, ?_, SS.keep IT7.out OT.out, OT.out.mono (fun k hk => by show k < w.heap.size + 2; have : k < w.heap.size := hk; omega), er_objO [], J7.out.set10 (by omega) _ _ _ _ _ _ _ _ _ _, B7.out.set10 (Nat.le_refl _) _ _ _ _ _ _ _ _ _ _⟩
  simp only [lb_zero]
  simp [srt]
/-- The text l begins with a value, objects among them. -/
inductive JX : List UInt8 → VT → List UInt8 → Bool → Bool → Prop
  | leaf {l r : List UInt8} {T : VT} {lg un : Bool} (h : JV l T r lg un) : JX l T r lg un
  | arr {l t r : List UInt8} {ks : List VT} {lg un : Bool} (h : jskip l = 91 :: t) (h2 : Lib.hasPrefix (jskip t) [93] = false) (ha : JAP JX (jskip t) ks r lg un) : JX l (arrE ks) r lg un
  | obj0 {l t r : List UInt8} (h : jskip l = 123 :: t) (h2 : jskip t = 125 :: r) : JX l (objO []) r false false
  | obj {l t r : List UInt8} {kv : List (List UInt8 × VT)} {lg un : Bool} (h : jskip l = 123 :: t) (h2 : Lib.hasPrefix (jskip t) [125] = false) (ho : JO JX (jskip t) kv r lg un) (hn : (kv.map Prod.fst).Nodup) : JX l (objO kv) r lg un
theorem jx_any (w0 : World) (b : Nat) (hb0 : w0.heap.size ≤ b) (hT0 : Tb w0) : ∀ (n : Nat) (l : List UInt8) (T : VT) (r : List UInt8) (lg1 un1 : Bool), l.length ≤ n → n ≤ 1000000000 → JX l T r lg1 un1 → VC w0 b l T r lg1 un1 := by
  intro n
  induction n using Nat.strongRecOn with
  | ind n ih =>
    intro l T r lg1 un1 hln hn hv lg un w hw h
    have hl : l.length ≤ 1000000000 := by omega
    have hjl := jskip_len l
    cases hv with
    | leaf h1 => exact jv_any w0 b hb0 hT0 n l T r lg1 un1 hln (by omega) h1 lg un w hw h
    | @arr _ t _ ks _ _ hJ h2 ha =>
      rw [hJ, List.length_cons] at hjl
      refine (rv_arr l _ (by omega) hJ b lg un w h t rfl (fun P hP => pre4 P hP _) (fun o kids ok W X => ok = true ∧ (VT.mk o kids).In X ∧ (VT.mk o kids).Off (fun k => k < W.heap.size) ∧ er (VT.mk o kids) = arrE ks ∧ Jr X b (str r) (lg || lg1) (un || un1)) (fun W _ hB hW => ?_)).mono ?_
      · refine (rarrP JX w0 b hb0 t r ks lg1 un1 (by omega) h2 ha (fun t' T' r' l' u' hl' hv' => ih t.length (by omega) t' T' r' l' u' hl' (by omega) hv') lg un W (below_but hb0 hw hB) hW).mono ?_
        rintro e w' ⟨o, kids, he, hI, hO, hE, hj, hb⟩
        exact ⟨o, kids, true, he, ⟨rfl, hI, hO, hE, hj⟩, ⟨_, _, _, hj⟩, hb⟩
      · rintro e w' ⟨o, kids, ok, W, X, s, lg2, un2, he, ⟨hok, hI, hO, hE, hj⟩, hB1, hB2, hX, hw', hb, hlt, hS⟩
        exact vq_of he hok hI hO hE hj hX hw' hb hlt hS
    | @obj0 _ t _ hJ h2 =>
      rw [hJ, List.length_cons] at hjl
      refine (rv_obj l _ (by omega) hJ b lg un w h t rfl (fun P hP => pre5 P hP _) (fun o kids ok W X => ok = true ∧ (VT.mk o kids).In X ∧ (VT.mk o kids).Off (fun k => k < W.heap.size) ∧ er (VT.mk o kids) = objO [] ∧ Jr X b (str r) lg un) (fun W _ hB hW => ?_)).mono ?_
      · refine (robj_nil t r (by omega) h2 b lg un W hW).mono ?_
        rintro e w' ⟨o, kids, he, hI, hO, hE, hj, hb⟩
        exact ⟨o, kids, true, he, ⟨rfl, hI, hO, hE, hj⟩, ⟨_, _, _, hj⟩, hb⟩
      · rintro e w' ⟨o, kids, ok, W, X, s, lg2, un2, he, ⟨hok, hI, hO, hE, hj⟩, hB1, hB2, hX, hw', hb, hlt, hS⟩
        rw [Bool.or_false, Bool.or_false]
        exact vq_of he hok hI hO hE hj hX hw' hb hlt hS
    | @obj _ t _ kv _ _ hJ h2 ho hn1 =>
      rw [hJ, List.length_cons] at hjl
      refine (rv_obj l _ (by omega) hJ b lg un w h t rfl (fun P hP => pre5 P hP _) (fun o kids ok W X => ok = true ∧ (VT.mk o kids).In X ∧ (VT.mk o kids).Off (fun k => k < W.heap.size) ∧ er (VT.mk o kids) = objO kv ∧ Jr X b (str r) (lg || lg1) (un || un1)) (fun W _ hB hW => ?_)).mono ?_
      · refine (robj_any JX w0 b hb0 t r kv lg1 un1 (by omega) h2 ho hn1 (fun t' T' r' l' u' hl' hv' => ih t.length (by omega) t' T' r' l' u' hl' (by omega) hv') lg un W (below_but hb0 hw hB) hW).mono ?_
        rintro e w' ⟨o, kids, he, hI, hO, hE, hj, hb⟩
        exact ⟨o, kids, true, he, ⟨rfl, hI, hO, hE, hj⟩, ⟨_, _, _, hj⟩, hb⟩
      · rintro e w' ⟨o, kids, ok, W, X, s, lg2, un2, he, ⟨hok, hI, hO, hE, hj⟩, hB1, hB2, hX, hw', hb, hlt, hS⟩
        exact vq_of he hok hI hO hE hj hX hw' hb hlt hS
section
variable (l : List UInt8) (hl : l.length ≤ 65536) (gg off cap N : Nat) (hN : l.length = N) (w : World) (hb : BytesAt w gg off l) (hT : Tb w) (T : VT) (r : List UInt8) (hend : jskip r = []) (hn : T.nodes ≤ 10000) (hs : T.Every SmallO)
include hl hN hb hT hend hn hs
/-- Decode of what may be: the value. -/
theorem jdecX_good (hv : JX l T r false false) (hm : mayN T = 0) : Calls Tryz.prog 6 #[.slice (some ⟨gg, off, none⟩) N cap] w fun e w' => ∃ (o : Own) (kids : List VT), e = .returned (.tuple #[(VT.mk o kids).val, .int .i64 0]) ∧ (VT.mk o kids).In w' ∧ (VT.mk o kids).Off (fun k => k < w.heap.size) ∧ er (VT.mk o kids) = T ∧ Below w.heap.size w w' := by
  refine jdec_ok l hl gg off cap N hN w hb T (fun W b hB hbb hW => ?_) (fun o kids W hB hI hE => ?_)
  · exact rdoc_vc w b hbb l T r false false (jx_any w b hbb hT _ l T r false false (Nat.le_refl _) (by omega) hv) hend false false W hB hW
  · have h1 := vmay (.mk o kids) (by rw [← er_nodes, hE]; exact hn) W ⟨hI, tb_on hT hB, er_small (by rw [hE]; exact hs)⟩
    rw [← er_may, hE, hm] at h1
    exact h1
/-- Decode of what may not be. -/
theorem jdecX_over (lg un : Bool) (hv : JX l T r lg un) (m : Int) (hm0 : m ≠ 0) (hm : mayN T = m) : Calls Tryz.prog 6 #[.slice (some ⟨gg, off, none⟩) N cap] w fun e w' => e = .returned (.tuple #[V10 0 false 0 0 0 0 0 ⟨#[]⟩ none 0 0 none 0 0, .int .i64 m]) ∧ Below w.heap.size w w' := by
  refine jdec_may l hl gg off cap N hN w hb T lg un m hm0 (fun W b hB hbb hW => ?_) (fun o kids W hB hI hE => ?_)
  · have := rdoc_vc w b hbb l T r lg un (jx_any w b hbb hT _ l T r lg un (Nat.le_refl _) (by omega) hv) hend false false W hB hW
    rw [Bool.false_or, Bool.false_or] at this
    exact this
  · have h1 := vmay (.mk o kids) (by rw [← er_nodes, hE]; exact hn) W ⟨hI, tb_on hT hB, er_small (by rw [hE]; exact hs)⟩
    rw [← er_may, hE, hm] at h1
    exact h1
end
end Go.Proofs.YtebfggiodhaahaaGreatDoor
end
section
namespace Go.Proofs.YtebfggiodhaahaaGreatDoor
open Go.RowKit Go.Shelf
set_option linter.unusedVariables false

/-- The text stops ahead of its end; each escape in it is one. -/
def jtb : Nat → List UInt8 → Bool
  | 0, _ => false
  | f + 1, l =>
    if unc l < 32 then true
    else if l.take (unn l) = [34] then false
    else if l.take (unn l) = [92] then (match jesd (l.drop (unn l)) with
      | some (p, r) => jtb f r
      | none => false)
    else jtb f (l.drop (unn l))
set_option maxRecDepth 100000 in
set_option maxHeartbeats 4000000 in
theorem rtext_no (f0 : Nat) (l0 : List UInt8) (hl0 : l0.length ≤ 70000000000000) (hj : jtb f0 l0 = true) (b : Nat) (lg un : Bool) (w : World) (h : Jr w b (str l0) lg un) :
    Calls Tryz.prog 38 #[.pointer (some ⟨b, 0, none⟩)] w fun e w' => e = .returned (.tuple #[.string ⟨#[]⟩, .bool false]) ∧ (∃ s, Jr w' b s lg un) ∧ But w.heap.size b w w' := by
  have hbw := h.lt
  have HJ := Lib.hid hj
  have T0 : Hid (TJ w.heap.size b w.heap.size lg un l0 [] (w.alloc (.cells #[.pointer none, .slice none 0 0] 90))) := Lib.hid ⟨h.alloc _, Or.inl ⟨Nat.le_refl _, .slice none 0 0, heap_alloc_new _ _, World.ownsRowF_nil _ _ _ _, fun e => by cases e⟩, hbw, by simp⟩
  have B0 : Hid (But w.heap.size b w (w.alloc (.cells #[.pointer none, .slice none 0 0] 90))) := Lib.hid (But.of (bal (Below.refl _ _) _))
  clear hj h
  go_enter Tryz.func38, Tryz.ntmps38
  go_wp2
  go_loopw [5, 6, 7, 8] (fun _ _ _ _ wr => ∃ (f : Nat) (l x : List UInt8), Hid (TJ w.heap.size b w.heap.size lg un l x wr) ∧ Hid (But w.heap.size b w wr) ∧ Hid (jtb f l = true) ∧ x.length + l.length ≤ l0.length) (fun _ _ _ _ wr => restJ wr b)
  case atStart => exact ⟨f0, l0, [], T0, B0, HJ, by simp⟩
  case round =>
    obtain ⟨f, l, x, HT, HB, HX, hxl⟩ := hrel
    clear T0 B0 HJ
    rename World => wr
    have hll : l.length ≤ 140737488351232 := by omega
    obtain ⟨f', rfl⟩ : ∃ f', f = f' + 1 := by
      cases f with
      | zero => exact absurd HX.out (by intro h; cases h)
      | succ f => exact ⟨f, rfl⟩
    have hx := HX.out
    rw [show jtb (f' + 1) l = (if unc l < 32 then true else if l.take (unn l) = [34] then false else if l.take (unn l) = [92] then (match jesd (l.drop (unn l)) with | some (p, r) => jtb f' r | none => false) else jtb f' (l.drop (unn l))) from rfl] at hx
    by_cases hc32 : unc l < 32
    · have KN : Hid (∀ W, Calls Tryz.prog 71 #[.string (str l), .int .i64 0] W fun e w' => e = .returned (.tuple #[.int .i64 (unc l), .int .i64 (unn l : Nat)]) ∧ w' = W) := Lib.hid (fun W => by
        have h9 := next_any (str l) (by rw [str_size]; omega) 0 W
        have h8 : uat (str l) 0 = l := by rw [show (0 : Int) = ((0 : Nat) : Int) from rfl, uat_nat, str_data, List.drop_zero]
        rw [h8] at h9
        exact h9)
      obtain ⟨q0, q1, q2, g0, g1, g2⟩ := HT.out.cr.parts
      obtain ⟨c, hc⟩ : ∃ c, unc l = c := ⟨_, rfl⟩
      obtain ⟨n, hn⟩ : ∃ n, unn l = n := ⟨_, rfl⟩
      rw [hc] at KN hc32
      rw [hn] at KN
      clear hc hn hx
      go_wp2_with (go_at_call 71; ((with_reducible refine (KN.out _).mono ?_); rintro e w3 ⟨rfl, rfl⟩))
      go_ret2
      exact ⟨rfl, ⟨_, HT.out.cr⟩, HB.out⟩
    rw [if_neg hc32] at hx
    have hne : l ≠ [] := by intro hc; rw [hc] at hc32; exact hc32 (by decide)
    obtain ⟨n1, n4, nl⟩ := unn_pos hne
    have KN : Hid (∀ W, Calls Tryz.prog 71 #[.string (str l), .int .i64 0] W fun e w' => e = .returned (.tuple #[.int .i64 (unc l), .int .i64 (unn l : Nat)]) ∧ w' = W) := Lib.hid (fun W => by
      have h9 := next_any (str l) (by rw [str_size]; omega) 0 W
      have h8 : uat (str l) 0 = l := by rw [show (0 : Int) = ((0 : Nat) : Int) from rfl, uat_nat, str_data, List.drop_zero]
      rw [h8] at h9
      exact h9)
    have hss : (str l).size = l.length := str_size l
    have HD := Lib.hid (str_drop l (unn l))
    have HTK := Lib.hid (str_take l (unn l))
    have hpt : (str (l.take (unn l))).toList = l.take (unn l) := str_toList _
    obtain ⟨q0, q1, q2, g0, g1, g2⟩ := HT.out.cr.parts
    have hlr := HT.out.cr.lt
    have KW := Lib.hid (fun (W : World) (y : List UInt8) (hy : y.length ≤ l0.length) (t : List UInt8) (ht : t.length ≤ l0.length) (hb : Lib.IsBuilderF 90 5 w.heap.size w.heap.size (Lib.byteCells y) W) (hle : w.heap.size ≤ W.heap.size) => bwrite w.heap.size w.heap.size (Lib.byteCells y) (str t) W hb (by rw [Lib.byteCells_length, str_size]; omega) hle)
    have KE := Lib.hid (fun (W : World) (p r : List UInt8) (he : jesd (l.drop (unn l)) = some (p, r)) (hW : Jr W b (str (l.drop (unn l))) lg un) => resc_ok (l.drop (unn l)) p r (by rw [List.length_drop]; omega) he b lg un W hW)
    have HTD : Hid (TJ w.heap.size b w.heap.size lg un (l.drop (unn l)) x (wr.setCell ⟨b, 0, none⟩ (.string ((str l).extract (unn l) (str l).size)))) := Lib.hid (HT.out.but (by rw [HD.out]; exact HT.out.cr.rest _) ((But.refl _ _ _).store _ _))
    have HBD : Hid (But w.heap.size b w (wr.setCell ⟨b, 0, none⟩ (.string ((str l).extract (unn l) (str l).size)))) := Lib.hid (HB.out.store _ _)
    rw [← HTK.out] at hpt
    have htl : (l.take (unn l)).length = unn l := by rw [List.length_take]; omega
    have hdl : (l.drop (unn l)).length = l.length - unn l := List.length_drop ..
    have HM := Lib.hid (restJ_jr HT.out.cr)
    obtain ⟨D, hD⟩ : ∃ D, l.drop (unn l) = D := ⟨_, rfl⟩
    obtain ⟨K, hK⟩ : ∃ K, l.take (unn l) = K := ⟨_, rfl⟩
    rw [hD] at hx KE HTD hdl HD
    rw [hK] at hx hpt htl HTK
    obtain ⟨c, hc⟩ : ∃ c, unc l = c := ⟨_, rfl⟩
    obtain ⟨n, hn⟩ : ∃ n, unn l = n := ⟨_, rfl⟩
    rw [hc] at KN hc32
    rw [hn] at KN HTD HBD n1 n4 nl hpt htl hdl HTK
    clear hD hK hc hn hne HD
    have hnS : (n : Int) ≤ ((str l).size : Int) := by omega
    have hmS : ((str l).size : Int) ≤ 140737488351232 := by omega
    obtain ⟨S, hS⟩ : ∃ S, str l = S := ⟨_, rfl⟩
    rw [hS] at KN HTD HBD hpt hnS hmS HTK q0
    clear hS hss
    by_cases hq : K = [34]
    · rw [if_pos hq] at hx
      cases hx
    · rw [if_neg hq] at hx
      have hb1 : ((S.extract 0 n).toList == [34]) = false := by rw [hpt, beq_eq_false_iff_ne]; exact hq
      have hb2 : ¬ (S.extract 0 n).toList = [34] := by rw [hpt]; exact hq
      by_cases hq2 : K = [92]
      · rw [if_pos hq2] at hx
        have hb3 : ((S.extract 0 n).toList == [92]) = true := by rw [hpt, hq2]; rfl
        have hb4 : (S.extract 0 n).toList = [92] := by rw [hpt, hq2]
        obtain ⟨⟨p, r⟩, hpr⟩ : ∃ q, jesd D = some q := by
          cases hj : jesd D with
          | none => rw [hj] at hx; cases hx
          | some q => exact ⟨q, rfl⟩
        rw [hpr] at hx
        have HXN : Hid (jtb f' r = true) := Lib.hid hx
        have hpl := jesd_len hpr
        have KE2 := Lib.hid (KE.out _ p r hpr HTD.out.cr)
        clear hx hpt KE hpr
        go_wp2_with (first
          | (go_at_call 71; ((with_reducible refine (KN.out _).mono ?_); rintro e w3 ⟨rfl, rfl⟩))
          | (go_at_call 73; ((with_reducible refine (KE2.out).mono ?_); rintro e w4 ⟨rfl, hj4, hb4'⟩; have HT4 := Lib.hid (HTD.out.but hj4 hb4'); have HB4 := Lib.hid (HBD.out.trans (hb4'.mono HTD.out.le)); clear hj4 hb4'))
          | (go_at_call 74; ((with_reducible refine (KW.out _ x (by omega) p (by omega) HT4.out.bu HT4.out.le).mono ?_); rintro e w5 ⟨rfl, c5, k5, o5⟩)))
        have HT5 : Hid (TJ w.heap.size b w.heap.size lg un r (x ++ p) w5) := Lib.hid (HT4.out.wrote (Or.inr (by
          have e : Lib.byteCells (x ++ p) = Lib.byteCells x ++ Lib.strCells (str p) := by rw [Lib.strCells_eq, str_data]; unfold Lib.byteCells; rw [List.map_append]
          rw [e]
          exact c5)) k5 o5)
        have HB5 := Lib.hid (HB4.out.trans (But.ofB (B := b) k5 (Nat.le_refl _)))
        clear c5 k5 o5
        go_roundw
        case rel => exact ⟨f', r, x ++ p, HT5, HB5, HXN, by rw [List.length_append]; omega⟩
        case measure =>
          have m1 := restJ_jr HT5.out.cr
          have m2 := HM.out
          show restJ _ b < restJ _ b
          rw [m1, m2]
          omega
      · rw [if_neg hq2] at hx
        have hb3 : ((S.extract 0 n).toList == [92]) = false := by rw [hpt, beq_eq_false_iff_ne]; exact hq2
        have hb4 : ¬ (S.extract 0 n).toList = [92] := by rw [hpt]; exact hq2
        have HXN : Hid (jtb f' D = true) := Lib.hid hx
        have KW2 := Lib.hid (KW.out _ x (by omega) K (by omega) HTD.out.bu HTD.out.le)
        rw [← HTK.out] at KW2
        clear hx hpt KE KW
        go_wp2_with (first
          | (go_at_call 71; ((with_reducible refine (KN.out _).mono ?_); rintro e w3 ⟨rfl, rfl⟩))
          | (go_at_call 74; ((with_reducible refine (KW2.out).mono ?_); rintro e w5 ⟨rfl, c5, k5, o5⟩)))
        have HT5 : Hid (TJ w.heap.size b w.heap.size lg un D (x ++ K) w5) := Lib.hid (HTD.out.wrote (Or.inr (by
          have e : Lib.byteCells (x ++ K) = Lib.byteCells x ++ Lib.strCells (S.extract 0 n) := by rw [HTK.out, Lib.strCells_eq, str_data]; unfold Lib.byteCells; rw [List.map_append]
          rw [e]
          exact c5)) k5 o5)
        have HB5 := Lib.hid (HBD.out.trans (But.ofB (B := b) k5 (Nat.le_refl _)))
        clear c5 k5 o5
        go_roundw
        case rel => exact ⟨f', D, x ++ K, HT5, HB5, HXN, by rw [List.length_append]; omega⟩
        case measure =>
          have m1 := restJ_jr HT5.out.cr
          have m2 := HM.out
          show restJ _ b < restJ _ b
          rw [m1, m2]
          omega
end Go.Proofs.YtebfggiodhaahaaGreatDoor
end
