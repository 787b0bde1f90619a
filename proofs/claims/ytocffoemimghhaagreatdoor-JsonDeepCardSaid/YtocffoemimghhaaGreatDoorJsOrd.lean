/-
  json.ordered of a map of one member.
-/
import Derived.Test.YtocffoemimghhaaGreatDoorGJ5
import Derived.Test.YtocffoemimghhaaGreatDoorJsIter
namespace Go.Proofs.YtocffoemimghhaaGreatDoor
open Go.RowKit Go.Shelf Go.Maps Go.Sort
set_option linter.unusedVariables false

theorem wpList_lookup_held {ops : Array Oper} {rest : List Oper} {o : Oper} {a : Act} {Q : Exit → Act → World → Prop} (w : World) (hg : o.guard = none) (m x : Operand) (t : TypeId) (hop : o.op = Op.lookup t m x false)
    (k e : TypeId) (K : Keyed Tryz.prog k) (ht : Tryz.prog.underlying t = some (.map k e)) {z : Value} (hz : (zeroValue e).run Tryz.prog w = .ok z w) (b n : Nat) (D : DataW Value)
    (hm : a.eval m = .map (some b)) (hown : w.ownsMap Tryz.prog k mR b n D) (key : Value) (kl : Lit) (hx : a.eval x = key) (hkey : keyOf Tryz.prog k key = some kl) (u : Value) (hat : D.atKey kl (.held z) = .held u)
    (hK : wpList Tryz.prog ops Q rest (a.put o.dst u) w) :
    wpList Tryz.prog ops Q (o :: rest) a w := by
  refine wpList_plain hg fun K' hK' => ?_
  obtain ⟨v, ps, hrun, hv⟩ := hown.lookup K ht hz (zd := .held z) (zp := []) rfl hkey
  obtain rfl := mR_inv hv hat
  unfold Oper.wp
  simp [execOp, hop, hm, hx, hrun, Result.andThen]
  exact hK' _ _ hK
theorem mOwn.keepB {W W' : World} {c n : Nat} {D : DataW Value} (h : mOwn W c n D) (hb : Below W.heap.size W W') : mOwn W' c n D := by
  have hlt := h.lt
  obtain ⟨es, clock, h1, h2⟩ := h
  exact ⟨es, clock, (hb.block c hlt).trans h1, h2⟩
theorem row10_set8 {W : World} {b : Nat} {v0 v1 v2 v3 v4 v5 v6 v7 v8 v9 : Value} (h : Row10 W b v0 v1 v2 v3 v4 v5 v6 v7 v8 v9) (u : Value) : Row10 (W.setCell ⟨b, 8, none⟩ u) b v0 v1 v2 v3 v4 v5 v6 v7 u v9 := by
  have := heap_setCell_same W b 8 _ _ u h
  unfold Row10
  rw [this]
  rfl
theorem row10_set8b {W : World} {b c : Nat} {v0 v1 v2 v3 v4 v5 v6 v7 v8 v9 : Value} (h : Row10 W b v0 v1 v2 v3 v4 v5 v6 v7 v8 v9) (hne : b ≠ c) (u : Value) : Row10 (W.setCell ⟨c, 8, none⟩ u) b v0 v1 v2 v3 v4 v5 v6 v7 v8 v9 := (Below.heap_setCell W ⟨c, 8, none⟩ u b hne).trans h
theorem cell_set8 {W : World} {g c : Nat} {v : Value} (h : W.cell? ⟨g, 0, none⟩ = some v) (hne : g ≠ c) (u : Value) : (W.setCell ⟨c, 8, none⟩ u).cell? ⟨g, 0, none⟩ = some v := cell_offJ h (Below.heap_setCell W ⟨c, 8, none⟩ u g hne)
/-- A map of one member. -/
def objE (x : List UInt8) (T : VT) : VT := .mk ⟨8, false, 0, 0, ⟨#[]⟩, none, 0, none, 0, [str x]⟩ [T]
theorem row_one {W : World} {base : Nat} {v : Value} {x : List UInt8} (h : W.ownsRow base 9 1 v 1 [Value.string (str x)]) : ∃ g cap, v = .slice (some ⟨g, 0, none⟩) 1 cap ∧ base ≤ g ∧ g < W.heap.size ∧ 1 ≤ cap ∧ cap ≤ maxLen ∧ W.cell? ⟨g, 0, none⟩ = some (.string (str x)) := by
  have h' := h
  rcases h.2 with ⟨h2, h3⟩ | ⟨g, cap, cur, h3, h4, h5, h6, h7, _⟩
  · cases h3
  · refine ⟨g, cap, h3, h4, (Array.getElem?_eq_some_iff.1 h5).1, h6, h7, ?_⟩
    have := World.ownsRow.cells h' (g := g) (by rw [h3]; rfl) 0 (.string (str x)) rfl
    rwa [addr_add] at this
set_option maxRecDepth 100000 in
set_option maxHeartbeats 8000000 in
theorem rord_one (c : Nat) (x : List UInt8) (hx : x.length ≤ 60000000000000) (o : Own) (kids : List VT) (w : World) (hM : mOwn w c 1 ((DataW.map []).put (.string x) (.held (V10 o.kind o.g (lb 0 o.x) (lb 1 o.x) (lb 2 o.x) (lb 3 o.x) o.bits o.text o.la kids.length o.lcap o.ka o.keys.length o.kcap)))) (hI : (VT.mk o kids).In w) :
    Calls Tryz.prog 120 #[.map (some c)] w fun e w' => ∃ gl lc gk kc, e = .returned (V10 8 false 0 0 0 0 0 ⟨#[]⟩ (some ⟨gl, 0, none⟩) 1 lc (some ⟨gk, 0, none⟩) 1 kc) ∧ w.heap.size ≤ gl ∧ w.heap.size ≤ gk ∧ (VT.mk ⟨8, false, 0, 0, ⟨#[]⟩, some ⟨gl, 0, none⟩, lc, some ⟨gk, 0, none⟩, kc, [str x]⟩ [VT.mk o kids]).In w' ∧ Below w.heap.size w w' := by
  have hk1 := fun W => callsIn_wide.1 (Tryz.maps_Keys_156 (some c) W)
  have HM0 : Hid (mOwn (w.alloc (.cells #[.int .i64 0, .bool false, .int .u64 0, .int .u64 0, .int .u64 0, .int .u64 0, .int .u64 0, .string ⟨#[]⟩, .slice none 0 0, .slice none 0 0] 30)) c 1 ((DataW.map []).put (.string x) (.held (V10 o.kind o.g (lb 0 o.x) (lb 1 o.x) (lb 2 o.x) (lb 3 o.x) o.bits o.text o.la kids.length o.lcap o.ka o.keys.length o.kcap)))) := Lib.hid (World.ownsMap.alloc hM _)
  have hsz : Maps.size ((DataW.map []).put (.string x) (.held (V10 o.kind o.g (lb 0 o.x) (lb 1 o.x) (lb 2 o.x) (lb 3 o.x) o.bits o.text o.la kids.length o.lcap o.ka o.keys.length o.kcap))) = 1 := rfl
  have hs1 := callsIn_wide.1 (Tryz.slices_Sorted_keys_155_156 c 1 ((DataW.map []).put (.string x) (.held (V10 o.kind o.g (lb 0 o.x) (lb 1 o.x) (lb 2 o.x) (lb 3 o.x) o.bits o.text o.la kids.length o.lcap o.ka o.keys.length o.kcap))) mR (w.alloc (.cells #[.int .i64 0, .bool false, .int .u64 0, .int .u64 0, .int .u64 0, .int .u64 0, .int .u64 0, .string ⟨#[]⟩, .slice none 0 0, .slice none 0 0] 30)) HM0.out (by rw [hsz]; unfold maxLen; omega) (by rw [hsz]; omega))
  have hM0 := Lib.hid hM
  simp only [World.size_alloc] at hs1
  have HK1 := Lib.hid hk1; have HS1 := Lib.hid hs1; have HI := Lib.hid hI
  have HKEY := Lib.hid (key_of x hx)
  obtain ⟨X, hX⟩ : ∃ X, str x = X := ⟨_, rfl⟩
  have HX := Lib.hid hX
  rw [hX] at HKEY
  have R0 := Lib.hid (Row10.new w (.int .i64 0) (.bool false) (.int .u64 0) (.int .u64 0) (.int .u64 0) (.int .u64 0) (.int .u64 0) (.string ⟨#[]⟩) (.slice none 0 0) (.slice none 0 0))
  have HB0 : Hid (Below w.heap.size w (w.alloc (.cells #[.int .i64 0, .bool false, .int .u64 0, .int .u64 0, .int .u64 0, .int .u64 0, .int .u64 0, .string ⟨#[]⟩, .slice none 0 0, .slice none 0 0] 30))) := Lib.hid (bal (Below.refl _ _) _)
  clear hk1 hs1 hsz hI hM hX
  go_enter Tryz.func120, Tryz.ntmps120
  go_wp2_with fail
  ((with_reducible refine (HK1.out _).mono ?_); rintro e w0 ⟨rfl, rfl⟩)
  go_wp2_with fail
  ((with_reducible refine (HS1.out).mono ?_); rintro e w1 ⟨v, ss, rfl, hS, hrow, _, hb⟩)
  obtain rfl : ss = [x] := List.perm_singleton.1 hS
  rw [List.mergeSort_singleton] at hrow
  obtain ⟨gk, kc, rfl, hgk, hgl, h1k, hkm, hck⟩ := row_one (show w1.ownsRow _ 9 1 v 1 [Value.string (str x)] from hrow)
  rw [HX.out] at hck
  have hgk2 : w.heap.size + 2 ≤ gk := by omega
  replace hb : Below ((w.alloc (.cells #[.int .i64 0, .bool false, .int .u64 0, .int .u64 0, .int .u64 0, .int .u64 0, .int .u64 0, .string ⟨#[]⟩, .slice none 0 0, .slice none 0 0] 30)).alloc (.cells #[.map (some c)] 131)).heap.size ((w.alloc (.cells #[.int .i64 0, .bool false, .int .u64 0, .int .u64 0, .int .u64 0, .int .u64 0, .int .u64 0, .string ⟨#[]⟩, .slice none 0 0, .slice none 0 0] 30)).alloc (.cells #[.map (some c)] 131)) w1 := by rw [World.size_alloc, World.size_alloc]; exact hb
  have HB1 : Hid (Below w.heap.size w w1) := Lib.hid (btr (bal HB0.out (.cells #[.map (some c)] 131)) hb)
  have R1 := Lib.hid (Row10.keep hb (R0.out.alloc (.cells #[.map (some c)] 131)))
  have hs1 := HB1.out.size
  have hs2 := R1.out.lt
  have R2 := Lib.hid (R1.out.alloc (.cells #[.int .i64 8, .bool false, .int .u64 0, .int .u64 0, .int .u64 0, .int .u64 0, .int .u64 0, .string ⟨#[]⟩, .slice none 0 0, .slice (some ⟨gk, 0, none⟩) 1 kc] 30))
  have C2 := Lib.hid (Row10.new w1 (.int .i64 8) (.bool false) (.int .u64 0) (.int .u64 0) (.int .u64 0) (.int .u64 0) (.int .u64 0) (.string ⟨#[]⟩) (.slice none 0 0) (.slice (some ⟨gk, 0, none⟩) 1 kc))
  have HB2 : Hid (Below w.heap.size w (w1.alloc (.cells #[.int .i64 8, .bool false, .int .u64 0, .int .u64 0, .int .u64 0, .int .u64 0, .int .u64 0, .string ⟨#[]⟩, .slice none 0 0, .slice (some ⟨gk, 0, none⟩) 1 kc] 30))) := Lib.hid (bal HB1.out _)
  have K2 := Lib.hid (cell_keep (bal (Below.refl _ w1) (.cells #[.int .i64 8, .bool false, .int .u64 0, .int .u64 0, .int .u64 0, .int .u64 0, .int .u64 0, .string ⟨#[]⟩, .slice none 0 0, .slice (some ⟨gk, 0, none⟩) 1 kc] 30)) hck)
  have HG : Hid (w.heap.size + 2 ≤ gk ∧ gk < w1.heap.size ∧ 1 ≤ kc ∧ kc ≤ maxLen) := Lib.hid ⟨hgk2, hgl, h1k, hkm⟩
  obtain ⟨d0, d1, d2, d3, d4, d5, d6, d7, d8, d9⟩ := C2.out.parts
  clear hS hrow hb hgk hgl h1k hkm hck hgk2 R0 R1 HK1 HS1 HB0
  go_wp2
  clear d0 d1 d2 d3 d4 d5 d6 d7 d8 d9
  go_loopw [5, 13] (fun _ iv wr => ∃ (k : Nat) (la : Option Addr) (lc : Nat), iv = .int .i64 k ∧ k ≤ 1 ∧ Hid (Row10 wr w.heap.size (.int .i64 0) (.bool false) (.int .u64 0) (.int .u64 0) (.int .u64 0) (.int .u64 0) (.int .u64 0) (.string ⟨#[]⟩) (.slice none 0 0) (.slice none 0 0)) ∧ Hid (Row10 wr w1.heap.size (.int .i64 8) (.bool false) (.int .u64 0) (.int .u64 0) (.int .u64 0) (.int .u64 0) (.int .u64 0) (.string ⟨#[]⟩) (.slice la k lc) (.slice (some ⟨gk, 0, none⟩) 1 kc)) ∧ Hid (wr.cell? ⟨gk, 0, none⟩ = some (.string X)) ∧ Hid (Below w.heap.size w wr) ∧ Hid (k = 0 → la = none ∧ lc = 0) ∧ Hid (k = 1 → Vr wr (w1.heap.size + 1) (.slice la 1 lc) [VT.mk o kids])) (fun _ iv _ => 1 - (intOf iv).toNat)
  case atStart => exact ⟨0, none, 0, rfl, by omega, R2, C2, K2, HB2, Lib.hid (fun _ => ⟨rfl, rfl⟩), Lib.hid (fun h => absurd h (by omega))⟩
  case round =>
    obtain ⟨k, la, lc, rfl, hk, HR, HC, HK, HB, HL0, HL1⟩ := hrel
    clear R2 C2 K2 HB2
    rename World => wr
    obtain ⟨d0, d1, d2, d3, d4, d5, d6, d7, d8, d9⟩ := HC.out.parts
    have sC := HC.out.lt
    by_cases hk0 : k < 1
    · have hk00 : k = 0 := by omega
      subst hk00
      obtain ⟨rfl, rfl⟩ := HL0.out rfl
      have hkc := HK.out
      have HM := Lib.hid (mOwn.keepB hM0.out HB.out)
      have fC := HC.out.free
      go_wp2_with (first
        | (at_lookup; refine wpList_lookup_held _ rfl _ _ 131 rfl 9 30 mlaw Tryz.underlying131 (mzero _) c 1 ((DataW.map []).put (.string x) (.held (V10 o.kind o.g (lb 0 o.x) (lb 1 o.x) (lb 2 o.x) (lb 3 o.x) o.bits o.text o.la kids.length o.lcap o.ka o.keys.length o.kcap))) rfl HM.out _ (.string x) rfl HKEY.out (V10 o.kind o.g (lb 0 o.x) (lb 1 o.x) (lb 2 o.x) (lb 3 o.x) o.bits o.text o.la kids.length o.lcap o.ka o.keys.length o.kcap) (atKey_put_same (k := Lit.string x) ⟨_, rfl⟩ trivial _ _) ?_)
        | (at_builtin; refine wpList_append_val _ rfl (.tmp 18) (.tmp 22) rfl (w1.heap.size + 1) (.slice none 0 0) [] rfl (Vr.nil _ _) _ 1 (VT.mk o kids) rfl (LitV.of (hnewV (by simp)) rfl) 1 rfl (by omega) (by simp; omega) ?_; intro q cap w4 V4 G4 at4; have b4 : Below (wr.alloc (.cells #[.int .i64 o.kind, .bool o.g, .int .u64 (lb 0 o.x), .int .u64 (lb 1 o.x), .int .u64 (lb 2 o.x), .int .u64 (lb 3 o.x), .int .u64 o.bits, .string o.text, .slice o.la kids.length o.lcap, .slice o.ka o.keys.length o.kcap] 30)).heap.size (wr.alloc (.cells #[.int .i64 o.kind, .bool o.g, .int .u64 (lb 0 o.x), .int .u64 (lb 1 o.x), .int .u64 (lb 2 o.x), .int .u64 (lb 3 o.x), .int .u64 o.bits, .string o.text, .slice o.la kids.length o.lcap, .slice o.ka o.keys.length o.kcap] 30)) w4 := ⟨G4.os, G4.tape, G4.output, G4.size, fun j hj => G4.block j hj (by simp [Value.ownBlock])⟩; have HV4 := Lib.hid V4; have HQ4 : Hid (w1.heap.size < q) := Lib.hid (by rcases at4 with h | h; cases h; rw [h]; simp; omega); have HR4 := Lib.hid (Row10.keep b4 (HR.out.alloc (.cells #[.int .i64 o.kind, .bool o.g, .int .u64 (lb 0 o.x), .int .u64 (lb 1 o.x), .int .u64 (lb 2 o.x), .int .u64 (lb 3 o.x), .int .u64 o.bits, .string o.text, .slice o.la kids.length o.lcap, .slice o.ka o.keys.length o.kcap] 30))); have HC4 := Lib.hid (Row10.keep b4 (HC.out.alloc (.cells #[.int .i64 o.kind, .bool o.g, .int .u64 (lb 0 o.x), .int .u64 (lb 1 o.x), .int .u64 (lb 2 o.x), .int .u64 (lb 3 o.x), .int .u64 o.bits, .string o.text, .slice o.la kids.length o.lcap, .slice o.ka o.keys.length o.kcap] 30))); have HK4 := Lib.hid (cell_keep b4 (cell_keep (bal (Below.refl _ wr) (.cells #[.int .i64 o.kind, .bool o.g, .int .u64 (lb 0 o.x), .int .u64 (lb 1 o.x), .int .u64 (lb 2 o.x), .int .u64 (lb 3 o.x), .int .u64 o.bits, .string o.text, .slice o.la kids.length o.lcap, .slice o.ka o.keys.length o.kcap] 30)) HK.out)); have HB4 := Lib.hid (btr (bal HB.out (.cells #[.int .i64 o.kind, .bool o.g, .int .u64 (lb 0 o.x), .int .u64 (lb 1 o.x), .int .u64 (lb 2 o.x), .int .u64 (lb 3 o.x), .int .u64 o.bits, .string o.text, .slice o.la kids.length o.lcap, .slice o.ka o.keys.length o.kcap] 30)) b4); have sC4 := HC4.out.lt; have f4 := HC4.out.free; have e8 := HC4.out.parts.2.2.2.2.2.2.2.2.1; clear V4 G4 at4 b4))
      go_roundw
      case rel => exact ⟨1, some ⟨q, 0, none⟩, cap, by go_num, by omega, Lib.hid (row10_set8b HR4.out (by omega) _), Lib.hid (row10_set8 HC4.out _), Lib.hid (cell_set8 HK4.out (by have := HG.out; omega) _), Lib.hid (bsc HB4.out hs1 _), Lib.hid (fun h => absurd h (by omega)), Lib.hid (fun _ => Vr.setV HV4.out (by omega) _)⟩
      case measure => simp [intOf]
    · have hk1 : k = 1 := by omega
      subst hk1
      have HV := Lib.hid (HL1.out rfl)
      obtain ⟨gl, rfl⟩ : ∃ gl, la = some ⟨gl, 0, none⟩ := by
        rcases HV.out.2 with ⟨h2, _⟩ | ⟨g, cp, cur, h3, _⟩
        · cases h2
        · simp only [Value.slice.injEq] at h3; exact ⟨g, h3.1⟩
      obtain ⟨n1, n2, n3, n4⟩ := HV.out.lies rfl
      obtain ⟨a0, a1, a2, a3, a4, a5, a6, a7, a8, a9⟩ := HR.out.parts
      have al := HR.out.lt
      have af := HR.out.free
      go_wp2
      obtain ⟨y0, y1, y2, y3, y4, y5, y6, y7, y8, y9⟩ := (HR.out.set10 (.int .i64 8) (.bool false) (.int .u64 0) (.int .u64 0) (.int .u64 0) (.int .u64 0) (.int .u64 0) (.string ⟨#[]⟩) (.slice (some ⟨gl, 0, none⟩) 1 lc) (.slice (some ⟨gk, 0, none⟩) 1 kc)).parts
      refine bodyPost_ret (v := V10 8 false 0 0 0 0 0 ⟨#[]⟩ (some ⟨gl, 0, none⟩) 1 lc (some ⟨gk, 0, none⟩) 1 kc) (by simp [results, Tryz.results120, go_sem, y0, y1, y2, y3, y4, y5, y6, y7, y8, y9]) rfl ?_
      have SS := ButS.set10 (S := fun k => k = w.heap.size) wr (c := w.heap.size) rfl (.int .i64 8) (.bool false) (.int .u64 0) (.int .u64 0) (.int .u64 0) (.int .u64 0) (.int .u64 0) (.string ⟨#[]⟩) (.slice (some ⟨gl, 0, none⟩) 1 lc) (.slice (some ⟨gk, 0, none⟩) 1 kc)
      have hG := HG.out
      refine ⟨gl, lc, gk, kc, rfl, by omega, by omega, ?_, vbscJ HB.out (Nat.le_refl _) _ _ _ _ _ _ _ _ _ _⟩
      refine .mk _ _ ⟨⟨by show (-9223372036854775808 : Int) ≤ 8; omega, by show (8 : Int) ≤ 9223372036854775807; omega⟩, by show (0 : Nat) < 2 ^ 256; decide, ⟨Int.le_refl _, by show (0 : Int) ≤ 18446744073709551615; omega⟩, Nat.zero_le _, ⟨n1, n2⟩, ⟨hG.2.2.1, hG.2.2.2⟩, fun s h => ?_⟩ ⟨gk, 0, fun _ => rfl, fun i s hi => ?_⟩ (kids_butS (kids_rowJ rfl HV.out) SS (by show ¬ gl = w.heap.size; omega)) (fun i t h => ?_)
      · rw [List.mem_singleton.1 h, str_size]; unfold maxLen; omega
      · cases i with
        | zero =>
          simp at hi
          subst hi
          rw [HX.out]
          exact cell_offJ HK.out (SS.block _ (cell_lt HK.out) (by show ¬ gk = w.heap.size; omega))
        | succ i => simp at hi
      · cases i with
        | zero =>
          simp at h
          subst h
          have hI1 := HI.out.keep HB.out
          exact SS.keep hI1 ((VT.In.old HI.out).mono (fun k hk => by show w.heap.size ≤ k; rw [show k = w.heap.size from hk]; exact Nat.le_refl _))
        | succ i => simp at h
end Go.Proofs.YtocffoemimghhaaGreatDoor
