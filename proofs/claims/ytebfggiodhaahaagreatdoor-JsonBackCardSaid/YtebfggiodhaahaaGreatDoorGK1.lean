/-
  JsOrd JsMapM JsOrdA JsObj JsObjA JsArrP, one behind the other: a claim holds at most 60 files.
-/
import Derived.Test.YtebfggiodhaahaaGreatDoorJsIter
import Derived.Test.YtebfggiodhaahaaGreatDoorGJ5
section
namespace Go.Proofs.YtebfggiodhaahaaGreatDoor
open Go.RowKit Go.Shelf Go.Maps Go.Sort
set_option linter.unusedVariables false

theorem wpList_lookup_held {ops : Array Oper} {rest : List Oper} {o : Oper} {a : Act} {Q : Exit → Act → World → Prop} (w : World) (hg : o.guard = none) (m x : Operand) (t : TypeId) (hop : o.op = Op.lookup t m x false)
    (k e : TypeId) (K : Keyed Tryz.prog k) (ht : Tryz.prog.underlying t = some (.map k e)) {z : Value} (hz : (zeroValue e).run Tryz.prog w = .ok z w) (b n : Nat) (D : DataW Value)
    (hm : a.eval m = .map (some b)) (hown : w.ownsMap Tryz.prog k mR b n D) (key : Value) (kl : Lit) (hx : a.eval x = key) (hkey : keyOf Tryz.prog k key = some kl) (u : Value) (hat : D.atKey kl (.held z) = .held u)
    (hK : wpList Tryz.prog ops Q rest (a.put o.dst u) w) :
    wpList Tryz.prog ops Q (o :: rest) a w := by
  refine wpList_plain hg fun K' hK' => ?_
  obtain ⟨v, ps, hrun, hv⟩ := hown.lookup K ht hz (zd := .held z) (zp := []) rfl hkey
  obtain rfl := mR_inv hv hat
  unfold Oper.wp
  simp [execOp, hop, hm, hx, hrun, Result.andThen]
  exact hK' _ _ hK
theorem mOwn.keepB {W W' : World} {c n : Nat} {D : DataW Value} (h : mOwn W c n D) (hb : Below W.heap.size W W') : mOwn W' c n D := by
  have hlt := h.lt
  obtain ⟨es, clock, h1, h2⟩ := h
  exact ⟨es, clock, (hb.block c hlt).trans h1, h2⟩
theorem row10_set8 {W : World} {b : Nat} {v0 v1 v2 v3 v4 v5 v6 v7 v8 v9 : Value} (h : Row10 W b v0 v1 v2 v3 v4 v5 v6 v7 v8 v9) (u : Value) : Row10 (W.setCell ⟨b, 8, none⟩ u) b v0 v1 v2 v3 v4 v5 v6 v7 u v9 := by
  have := heap_setCell_same W b 8 _ _ u h
  unfold Row10
  rw [this]
  rfl
theorem row10_set8b {W : World} {b c : Nat} {v0 v1 v2 v3 v4 v5 v6 v7 v8 v9 : Value} (h : Row10 W b v0 v1 v2 v3 v4 v5 v6 v7 v8 v9) (hne : b ≠ c) (u : Value) : Row10 (W.setCell ⟨c, 8, none⟩ u) b v0 v1 v2 v3 v4 v5 v6 v7 v8 v9 := (Below.heap_setCell W ⟨c, 8, none⟩ u b hne).trans h
/-- A map of one member. -/
def objE (x : List UInt8) (T : VT) : VT := .mk ⟨8, false, 0, 0, ⟨#[]⟩, none, 0, none, 0, [str x]⟩ [T]
end Go.Proofs.YtebfggiodhaahaaGreatDoor
end
section
namespace Go.Proofs.YtebfggiodhaahaaGreatDoor
open Go.RowKit Go.Shelf Go.Maps Go.Sort
set_option linter.unusedVariables false

def mpF (m : DataW Value) (kv : List (List UInt8 × VT)) : DataW Value := kv.foldl (fun D p => D.put (.string p.1) (.held p.2.val)) m
/-- The members in the order read, as a map. -/
def mpD (kv : List (List UInt8 × VT)) : DataW Value := mpF (.map []) kv
theorem mpD_snoc (kv : List (List UInt8 × VT)) (p : List UInt8 × VT) : mpD (kv ++ [p]) = (mpD kv).put (.string p.1) (.held p.2.val) := by
  unfold mpD mpF
  rw [List.foldl_append]
  rfl
theorem mpF_tidy : ∀ (kv : List (List UInt8 × VT)) (m : DataW Value), Tidy m → Tidy (mpF m kv) := by
  intro kv
  induction kv with
  | nil => intro m h; exact h
  | cons p kv ih => intro m h; exact ih _ (h.put (k := Lit.string p.1) trivial _)
theorem mpD_tidy (kv : List (List UInt8 × VT)) : Tidy (mpD kv) := mpF_tidy kv _ tidy_empty
theorem lit_ne {x y : List UInt8} (h : x ≠ y) : Lit.string x ≠ Lit.string y := fun e => h (Lit.string.inj e)
theorem mpF_has (x : List UInt8) : ∀ (kv : List (List UInt8 × VT)) (m : DataW Value), Tidy m → (Maps.has (mpF m kv) (.string x) = true ↔ Maps.has m (.string x) = true ∨ x ∈ kv.map Prod.fst) := by
  intro kv
  induction kv with
  | nil => intro m h; simp [mpF]
  | cons p kv ih =>
    intro m h
    have h1 := ih (m.put (.string p.1) (.held p.2.val)) (h.put (k := Lit.string p.1) trivial _)
    show Maps.has (mpF (m.put (.string p.1) (.held p.2.val)) kv) (.string x) = true ↔ _
    rw [h1, List.map_cons, List.mem_cons]
    by_cases e : x = p.1
    · subst e
      rw [has_put_same h.isMap (k := Lit.string p.1) trivial]
      simp
    · rw [has_put_other (lit_ne e)]
      simp [e]
theorem mpD_has (x : List UInt8) (kv : List (List UInt8 × VT)) : Maps.has (mpD kv) (.string x) = true ↔ x ∈ kv.map Prod.fst := by
  unfold mpD
  rw [mpF_has x kv _ tidy_empty]
  simp [Maps.has_eq]
theorem mpD_hasnt {x : List UInt8} {kv : List (List UInt8 × VT)} (h : x ∉ kv.map Prod.fst) : Maps.has (mpD kv) (.string x) = false := by
  cases hh : Maps.has (mpD kv) (.string x) with
  | false => rfl
  | true => exact absurd ((mpD_has x kv).1 hh) h
theorem mpF_miss (x : List UInt8) (z : DataW Value) : ∀ (kv : List (List UInt8 × VT)) (m : DataW Value), x ∉ kv.map Prod.fst → (mpF m kv).atKey (.string x) z = m.atKey (.string x) z := by
  intro kv
  induction kv with
  | nil => intro m h; rfl
  | cons p kv ih =>
    intro m h
    rw [List.map_cons, List.mem_cons, not_or] at h
    show (mpF (m.put (.string p.1) (.held p.2.val)) kv).atKey (.string x) z = _
    rw [ih _ h.2, atKey_put_other (lit_ne h.1)]
theorem mpF_at (x : List UInt8) (T : VT) (z : DataW Value) : ∀ (kv : List (List UInt8 × VT)) (m : DataW Value), Tidy m → (kv.map Prod.fst).Nodup → (x, T) ∈ kv → (mpF m kv).atKey (.string x) z = .held T.val := by
  intro kv
  induction kv with
  | nil => intro m _ _ h; cases h
  | cons p kv ih =>
    intro m hm hn h
    rw [List.map_cons, List.nodup_cons] at hn
    have ht : Tidy (m.put (.string p.1) (.held p.2.val)) := hm.put (k := Lit.string p.1) trivial _
    show (mpF (m.put (.string p.1) (.held p.2.val)) kv).atKey (.string x) z = _
    rcases List.mem_cons.1 h with rfl | h
    · rw [mpF_miss _ _ _ _ hn.1, atKey_put_same hm.isMap (k := Lit.string x) trivial]
    · exact ih _ ht hn.2 h
theorem mpD_at {x : List UInt8} {T : VT} (z : DataW Value) {kv : List (List UInt8 × VT)} (hn : (kv.map Prod.fst).Nodup) (h : (x, T) ∈ kv) : (mpD kv).atKey (.string x) z = .held T.val := mpF_at x T z kv _ tidy_empty hn h
theorem mpF_size : ∀ (kv : List (List UInt8 × VT)) (m : DataW Value), Tidy m → (kv.map Prod.fst).Nodup → (∀ x ∈ kv.map Prod.fst, Maps.has m (.string x) = false) → Maps.size (mpF m kv) = Maps.size m + kv.length := by
  intro kv
  induction kv with
  | nil => intro m _ _ _; rfl
  | cons p kv ih =>
    intro m hm hn hf
    rw [List.map_cons, List.nodup_cons] at hn
    show Maps.size (mpF (m.put (.string p.1) (.held p.2.val)) kv) = _
    rw [ih _ (hm.put (k := Lit.string p.1) trivial _) hn.2 (fun x hx => ?_), size_put hm, hf p.1 (by simp), List.length_cons]
    · simp only [Bool.false_eq_true, if_false]
      omega
    · have hne : x ≠ p.1 := fun e => hn.1 (e ▸ hx)
      rw [has_put_other (lit_ne hne)]
      exact hf x (by simp only [List.map_cons, List.mem_cons]; exact Or.inr hx)
theorem mpD_size {kv : List (List UInt8 × VT)} (hn : (kv.map Prod.fst).Nodup) : Maps.size (mpD kv) = kv.length := by
  unfold mpD
  rw [mpF_size kv _ tidy_empty hn (fun x _ => by simp [Maps.has_eq])]
  simp [Maps.size_eq]
theorem mpD_perm {W : World} {c n : Nat} {kv : List (List UInt8 × VT)} (hM : mOwn W c n (mpD kv)) (hn : (kv.map Prod.fst).Nodup) : (kv.map Prod.fst).Perm (strKeys (mpD kv)) := by
  obtain ⟨es, he, hk⟩ := World.ownsMap.keysOf hM
  obtain ⟨es', he', hp⟩ := mpD_tidy kv
  have : es' = es := by rw [he] at he'; exact (DataW.map.inj he').symm
  subst this
  have h1 := mpD_has
  rw [he]
  refine perm_strKeys hp (fun p hp' => ?_) hn (fun x => ?_)
  · obtain ⟨v, hv⟩ := hk p hp'
    obtain ⟨x, _, hx, _⟩ := Maps.keyOf_str Tryz.underlying9 hv
    exact ⟨x, hx⟩
  · rw [← he]
    exact (mpD_has x kv).symm
/-- The members by name. -/
def srt (kv : List (List UInt8 × VT)) : List (List UInt8 × VT) := kv.mergeSort (fun a b => leB a.1 b.1)
theorem srt_perm (kv : List (List UInt8 × VT)) : (srt kv).Perm kv := List.mergeSort_perm _ _
theorem srt_length (kv : List (List UInt8 × VT)) : (srt kv).length = kv.length := (srt_perm kv).length_eq
theorem srt_names (kv : List (List UInt8 × VT)) : (srt kv).map Prod.fst = (kv.map Prod.fst).mergeSort leB := List.map_mergeSort (fun _ _ _ _ => rfl)
/-- A row of texts that the call owns. -/
theorem row_texts {W : World} {base : Nat} {v : Value} {n : Nat} {xs : List (List UInt8)} (h : W.ownsRow base 9 1 v n (xs.map encStr)) : ∃ ak cap, v = .slice ak n cap ∧ n ≤ cap ∧ cap ≤ maxLen ∧ (∀ (i : Nat) (x : List UInt8), xs[i]? = some x → ∃ gk, ak = some ⟨gk, 0, none⟩ ∧ base ≤ gk ∧ gk < W.heap.size ∧ W.cell? ⟨gk, i, none⟩ = some (.string (str x))) := by
  have h' := h
  have hl : xs.length = n := by have := h.1; rw [List.length_map, Nat.mul_one] at this; exact this
  rcases h.2 with ⟨rfl, rfl⟩ | ⟨g, cap, cur, rfl, h4, h5, h6, h7, _⟩
  · refine ⟨none, 0, rfl, Nat.le_refl _, Nat.zero_le _, fun i x hi => ?_⟩
    have := (List.getElem?_eq_some_iff.1 hi).1
    omega
  · refine ⟨_, cap, rfl, h6, h7, fun i x hi => ⟨g, rfl, h4, (Array.getElem?_eq_some_iff.1 h5).1, ?_⟩⟩
    have := World.ownsRow.cells h' (g := g) rfl i (.string (str x)) (by rw [List.getElem?_map, hi]; rfl)
    rwa [addr_add, Nat.zero_add] at this
end Go.Proofs.YtebfggiodhaahaaGreatDoor
end
section
namespace Go.Proofs.YtebfggiodhaahaaGreatDoor
open Go.RowKit Go.Shelf Go.Maps Go.Sort
set_option linter.unusedVariables false

theorem Vr.liesG {W : World} {base n c : Nat} {la : Option Addr} {ts : List VT} (h : Vr W base (.slice la n c) ts) (hn : ts.length = n) : n ≤ c ∧ c ≤ maxLen ∧ (∀ ad, la = some ad → base ≤ ad.block) ∧ KidsAt W la ts := by
  have h0 := h
  rcases h.2 with ⟨h2, h3⟩ | ⟨g, cap, cur, h3, h4, h5, h6, h7, _⟩
  · cases h2
    obtain rfl : ts = [] := List.length_eq_zero_iff.1 h3
    exact ⟨Nat.le_refl _, Nat.zero_le _, fun _ h => (by cases h), 0, 0, fun h => absurd h (by simp), fun i t hi => by simp at hi⟩
  · cases h3
    obtain ⟨n1, n2, n3, n4, n5⟩ := h0.lies hn
    exact ⟨n1, n2, fun ad h => by cases h; exact h4, n5⟩
theorem Vr.set10 {W : World} {base b : Nat} {v : Value} {ts : List VT} (h : Vr W base v ts) (hb : b < base) (u0 u1 u2 u3 u4 u5 u6 u7 u8 u9 : Value) : Vr ((((((((((W.setCell ⟨b, 0, none⟩ u0).setCell ⟨b, 1, none⟩ u1).setCell ⟨b, 2, none⟩ u2).setCell ⟨b, 3, none⟩ u3).setCell ⟨b, 4, none⟩ u4).setCell ⟨b, 5, none⟩ u5).setCell ⟨b, 6, none⟩ u6).setCell ⟨b, 7, none⟩ u7).setCell ⟨b, 8, none⟩ u8).setCell ⟨b, 9, none⟩ u9) base v ts :=
  (((((((((h.setV hb u0).setV hb u1).setV hb u2).setV hb u3).setV hb u4).setV hb u5).setV hb u6).setV hb u7).setV hb u8).setV hb u9
/-- The names of a sorted map where they lie. -/
def KyA (W : World) (lo hi : Nat) (ak : Option Addr) (xs : List (List UInt8)) : Prop := ∀ (i : Nat) (x : List UInt8), xs[i]? = some x → ∃ gk, ak = some ⟨gk, 0, none⟩ ∧ lo ≤ gk ∧ gk < hi ∧ W.cell? ⟨gk, i, none⟩ = some (.string (str x))
theorem KyA.at {W W' : World} {lo hi : Nat} {ak : Option Addr} {xs : List (List UInt8)} (h : KyA W lo hi ak xs) (hb : ∀ k, lo ≤ k → k < hi → W'.heap[k]? = W.heap[k]?) : KyA W' lo hi ak xs := by
  intro i x hi'
  obtain ⟨gk, h1, h2, h3, h4⟩ := h i x hi'
  exact ⟨gk, h1, h2, h3, cell_offJ h4 (hb gk h2 h3)⟩
set_option maxRecDepth 100000 in
set_option maxHeartbeats 8000000 in
theorem rord_any (c : Nat) (kv : List (List UInt8 × VT)) (hn : (kv.map Prod.fst).Nodup) (hx : ∀ p ∈ kv, p.1.length ≤ 60000000000000) (hlen : kv.length ≤ 5000000000) (w : World) (hM : mOwn w c kv.length (mpD kv)) (hI : ∀ p ∈ kv, p.2.In w) :
    Calls Tryz.prog 75 #[.map (some c)] w fun e w' => ∃ la lc ka kc, e = .returned (V10 8 false 0 0 0 0 0 ⟨#[]⟩ la kv.length lc ka kv.length kc) ∧ (∀ ad, la = some ad → w.heap.size ≤ ad.block) ∧ (∀ ad, 0 < kv.length → ka = some ad → w.heap.size ≤ ad.block) ∧ (VT.mk ⟨8, false, 0, 0, ⟨#[]⟩, la, lc, ka, kc, (srt kv).map (fun p => str p.1)⟩ ((srt kv).map Prod.snd)).In w' ∧ Below w.heap.size w w' := by
  have hk1 := fun W => callsIn_wide.1 (Tryz.maps_Keys_121 (some c) W)
  have HM0 : Hid (mOwn (w.alloc (.cells #[.int .i64 0, .bool false, .int .u64 0, .int .u64 0, .int .u64 0, .int .u64 0, .int .u64 0, .string ⟨#[]⟩, .slice none 0 0, .slice none 0 0] 32)) c kv.length (mpD kv)) := Lib.hid (World.ownsMap.alloc hM _)
  have hsz := mpD_size hn
  have hs1 := callsIn_wide.1 (Tryz.slices_Sorted_keys_120_121 c kv.length (mpD kv) mR (w.alloc (.cells #[.int .i64 0, .bool false, .int .u64 0, .int .u64 0, .int .u64 0, .int .u64 0, .int .u64 0, .string ⟨#[]⟩, .slice none 0 0, .slice none 0 0] 32)) HM0.out (by rw [hsz]; unfold maxLen; omega) (by rw [hsz]; omega))
  have hM0 := Lib.hid hM
  have HPM := Lib.hid (mpD_perm hM hn)
  simp only [World.size_alloc] at hs1
  have HK1 := Lib.hid hk1; have HS1 := Lib.hid hs1; have HI := Lib.hid hI; have HN := Lib.hid hn; have HXL := Lib.hid hx
  have R0 := Lib.hid (Row10.new w (.int .i64 0) (.bool false) (.int .u64 0) (.int .u64 0) (.int .u64 0) (.int .u64 0) (.int .u64 0) (.string ⟨#[]⟩) (.slice none 0 0) (.slice none 0 0))
  have HB0 : Hid (Below w.heap.size w (w.alloc (.cells #[.int .i64 0, .bool false, .int .u64 0, .int .u64 0, .int .u64 0, .int .u64 0, .int .u64 0, .string ⟨#[]⟩, .slice none 0 0, .slice none 0 0] 32))) := Lib.hid (bal (Below.refl _ w) _)
  obtain ⟨N, hN⟩ : ∃ N, kv.length = N := ⟨_, rfl⟩
  have HSL : Hid ((srt kv).length = N) := Lib.hid (by rw [srt_length, hN])
  rw [hN] at hM0 HM0 hlen
  rw [hN]
  have HNN := Lib.hid hN
  clear hk1 hs1 hsz hI hM hn hx hN
  go_enter Tryz.func75, Tryz.ntmps75
  go_wp2_with fail
  ((with_reducible refine (HK1.out _).mono ?_); rintro e w0 ⟨rfl, rfl⟩)
  go_wp2_with fail
  ((with_reducible refine (HS1.out).mono ?_); rintro e w1 ⟨v, ss, rfl, hS, hrow, _, hb⟩)
  have hSp : ss.mergeSort leB = (srt kv).map Prod.fst := by rw [srt_names]; exact mergeSort_of_perm (hS.trans HPM.out.symm)
  have hSl : ss.length = N := by rw [← HSL.out, ← List.length_map (f := Prod.fst), ← hSp, (List.mergeSort_perm ss leB).length_eq]
  rw [hSl] at hrow
  obtain ⟨ak, kc, rfl, hkc1, hkc2, hcells⟩ := row_texts (show w1.ownsRow (w.heap.size + 2) 9 1 v N (((srt kv).map Prod.fst).map encStr) from by rw [← hSp]; exact hrow)
  have HKY : Hid (KyA w1 (w.heap.size + 2) w1.heap.size ak ((srt kv).map Prod.fst)) := Lib.hid hcells
  replace hb : Below ((w.alloc (.cells #[.int .i64 0, .bool false, .int .u64 0, .int .u64 0, .int .u64 0, .int .u64 0, .int .u64 0, .string ⟨#[]⟩, .slice none 0 0, .slice none 0 0] 32)).alloc (.cells #[.map (some c)] 95)).heap.size ((w.alloc (.cells #[.int .i64 0, .bool false, .int .u64 0, .int .u64 0, .int .u64 0, .int .u64 0, .int .u64 0, .string ⟨#[]⟩, .slice none 0 0, .slice none 0 0] 32)).alloc (.cells #[.map (some c)] 95)) w1 := by rw [World.size_alloc, World.size_alloc]; exact hb
  have HB1 : Hid (Below w.heap.size w w1) := Lib.hid (btr (bal HB0.out (.cells #[.map (some c)] 95)) hb)
  have R1 := Lib.hid (Row10.keep hb (R0.out.alloc (.cells #[.map (some c)] 95)))
  have hs1 := HB1.out.size
  have hs2 := R1.out.lt
  have R2 := Lib.hid (R1.out.alloc (.cells #[.int .i64 8, .bool false, .int .u64 0, .int .u64 0, .int .u64 0, .int .u64 0, .int .u64 0, .string ⟨#[]⟩, .slice none 0 0, .slice ak N kc] 32))
  have C2 := Lib.hid (Row10.new w1 (.int .i64 8) (.bool false) (.int .u64 0) (.int .u64 0) (.int .u64 0) (.int .u64 0) (.int .u64 0) (.string ⟨#[]⟩) (.slice none 0 0) (.slice ak N kc))
  have HB2 : Hid (Below w.heap.size w (w1.alloc (.cells #[.int .i64 8, .bool false, .int .u64 0, .int .u64 0, .int .u64 0, .int .u64 0, .int .u64 0, .string ⟨#[]⟩, .slice none 0 0, .slice ak N kc] 32))) := Lib.hid (bal HB1.out _)
  have K2 : Hid (KyA (w1.alloc (.cells #[.int .i64 8, .bool false, .int .u64 0, .int .u64 0, .int .u64 0, .int .u64 0, .int .u64 0, .string ⟨#[]⟩, .slice none 0 0, .slice ak N kc] 32)) (w.heap.size + 2) w1.heap.size ak ((srt kv).map Prod.fst)) := Lib.hid (HKY.out.at (fun k _ hk => (bal (Below.refl _ w1) (.cells #[.int .i64 8, .bool false, .int .u64 0, .int .u64 0, .int .u64 0, .int .u64 0, .int .u64 0, .string ⟨#[]⟩, .slice none 0 0, .slice ak N kc] 32)).block k hk))
  have HG : Hid (N ≤ kc ∧ kc ≤ maxLen) := Lib.hid ⟨hkc1, hkc2⟩
  obtain ⟨d0, d1, d2, d3, d4, d5, d6, d7, d8, d9⟩ := C2.out.parts
  clear hS hrow hb hSp hSl hkc1 hkc2 hcells HKY R0 R1 HK1 HS1 HB0
  go_wp2
  clear d0 d1 d2 d3 d4 d5 d6 d7 d8 d9
  go_loopw [5, 13] (fun _ iv wr => ∃ (k : Nat) (la : Option Addr) (lc : Nat), iv = .int .i64 k ∧ k ≤ N ∧ Hid (Row10 wr w.heap.size (.int .i64 0) (.bool false) (.int .u64 0) (.int .u64 0) (.int .u64 0) (.int .u64 0) (.int .u64 0) (.string ⟨#[]⟩) (.slice none 0 0) (.slice none 0 0)) ∧ Hid (Row10 wr w1.heap.size (.int .i64 8) (.bool false) (.int .u64 0) (.int .u64 0) (.int .u64 0) (.int .u64 0) (.int .u64 0) (.string ⟨#[]⟩) (.slice la k lc) (.slice ak N kc)) ∧ Hid (KyA wr (w.heap.size + 2) w1.heap.size ak ((srt kv).map Prod.fst)) ∧ Hid (Below w.heap.size w wr) ∧ Hid (Vr wr (w1.heap.size + 1) (.slice la k lc) (((srt kv).map Prod.snd).take k))) (fun _ iv _ => N - (intOf iv).toNat)
  case atStart => exact ⟨0, none, 0, rfl, Nat.zero_le _, R2, C2, K2, HB2, Lib.hid (Vr.nil _ _)⟩
  case round =>
    obtain ⟨k, la, lc, rfl, hk, HR, HC, HK, HB, HV⟩ := hrel
    clear R2 C2 K2 HB2
    rename World => wr
    obtain ⟨d0, d1, d2, d3, d4, d5, d6, d7, d8, d9⟩ := HC.out.parts
    have sC := HC.out.lt
    by_cases hk0 : k < N
    · have hk2 : (k : Int) < (N : Int) := by omega
      obtain ⟨x, T, hxT⟩ : ∃ x T, (srt kv)[k]? = some (x, T) := by
        have h9 : k < (srt kv).length := by rw [HSL.out]; exact hk0
        exact ⟨((srt kv)[k]).1, ((srt kv)[k]).2, List.getElem?_eq_getElem h9⟩
      have hmem : (x, T) ∈ kv := (srt_perm kv).mem_iff.1 (List.mem_of_getElem? hxT)
      obtain ⟨gk, rfl, hg1, hg2, hkc⟩ := HK.out k x (by rw [List.getElem?_map, hxT]; rfl)
      obtain ⟨o, kids⟩ := T
      have HTK : Hid (((srt kv).map Prod.snd).take (k + 1) = ((srt kv).map Prod.snd).take k ++ [VT.mk o kids]) := Lib.hid (by rw [List.take_add_one, List.getElem?_map, hxT]; rfl)
      have HTL : Hid ((((srt kv).map Prod.snd).take k).length = k) := Lib.hid (by rw [List.length_take, List.length_map, HSL.out]; omega)
      have HAT := Lib.hid (mpD_at (x := x) (T := VT.mk o kids) (.held (V10 0 false 0 0 0 0 0 ⟨#[]⟩ none 0 0 none 0 0)) HN.out hmem)
      have HKEY := Lib.hid (key_of x (HXL.out _ hmem))
      obtain ⟨X, hX⟩ : ∃ X, str x = X := ⟨_, rfl⟩
      rw [hX] at HKEY hkc
      obtain ⟨k1, hk1⟩ : ∃ k1, k + 1 = k1 := ⟨_, rfl⟩
      have HK1 := Lib.hid hk1
      have HM := Lib.hid (mOwn.keepB hM0.out HB.out)
      have fC := HC.out.free
      have NA : Hid (some w.heap.size ≠ (Value.slice la k lc).ownBlock) := Lib.hid (Vr.away HV.out (by omega))
      have NC : Hid (some w1.heap.size ≠ (Value.slice la k lc).ownBlock) := Lib.hid (Vr.away HV.out (by omega))
      clear hxT hmem hX hk1
      go_wp2_with (first
        | (at_lookup; refine wpList_lookup_held _ rfl _ _ 95 rfl 9 32 mlaw Tryz.underlying95 (mzero _) c N (mpD kv) rfl HM.out _ (.string x) rfl HKEY.out (V10 o.kind o.g (lb 0 o.x) (lb 1 o.x) (lb 2 o.x) (lb 3 o.x) o.bits o.text o.la kids.length o.lcap o.ka o.keys.length o.kcap) HAT.out ?_)
        | (at_builtin; refine wpList_append_val _ rfl (.tmp 18) (.tmp 22) rfl (w1.heap.size + 1) (.slice la k lc) (((srt kv).map Prod.snd).take k) rfl (World.ownsRow.alloc HV.out _) _ 1 (VT.mk o kids) rfl (LitV.of (hnewV (by simp)) rfl) k1 (by rw [HTL.out]; exact HK1.out) (by have := HK1.out; omega) (by simp; omega) ?_; intro q cap w4 V4 G4 at4; have HV4 := Lib.hid V4; have HR4 := Lib.hid (Row10.grown (HR.out.alloc (.cells #[.int .i64 o.kind, .bool o.g, .int .u64 (lb 0 o.x), .int .u64 (lb 1 o.x), .int .u64 (lb 2 o.x), .int .u64 (lb 3 o.x), .int .u64 o.bits, .string o.text, .slice o.la kids.length o.lcap, .slice o.ka o.keys.length o.kcap] 32)) G4 NA.out); have HC4 := Lib.hid (Row10.grown (HC.out.alloc (.cells #[.int .i64 o.kind, .bool o.g, .int .u64 (lb 0 o.x), .int .u64 (lb 1 o.x), .int .u64 (lb 2 o.x), .int .u64 (lb 3 o.x), .int .u64 o.bits, .string o.text, .slice o.la kids.length o.lcap, .slice o.ka o.keys.length o.kcap] 32)) G4 NC.out); have HG4 := Lib.hid G4; have sC4 := HC4.out.lt; have f4 := HC4.out.free; have e8 := HC4.out.parts.2.2.2.2.2.2.2.2.1; clear V4 G4 at4))
      have ALL : ∀ j, j < w1.heap.size → w4.heap[j]? = wr.heap[j]? := fun j hj => by
        rw [HG4.out.block j (by simp; omega) (fun e => by have := (World.ownsRow.lt HV.out j e.symm).1; omega)]
        exact (bal (Below.refl _ wr) (.cells #[.int .i64 o.kind, .bool o.g, .int .u64 (lb 0 o.x), .int .u64 (lb 1 o.x), .int .u64 (lb 2 o.x), .int .u64 (lb 3 o.x), .int .u64 o.bits, .string o.text, .slice o.la kids.length o.lcap, .slice o.ka o.keys.length o.kcap] 32)).block j (by omega)
      have HB4 : Hid (Below w.heap.size w w4) := Lib.hid (HB.out.trans ⟨HG4.out.os, HG4.out.tape, HG4.out.output, by have := HG4.out.size; simp at this; omega, fun j hj => ALL j (by omega)⟩)
      have HK4 : Hid (KyA w4 (w.heap.size + 2) w1.heap.size (some ⟨gk, 0, none⟩) ((srt kv).map Prod.fst)) := Lib.hid (HK.out.at (fun j _ hj => ALL j hj))
      have HV5 : Hid (Vr w4 (w1.heap.size + 1) (.slice (some ⟨q, 0, none⟩) k1 cap) (((srt kv).map Prod.snd).take k1)) := Lib.hid (by have h9 := HTK.out; rw [HK1.out] at h9; rw [h9]; exact HV4.out)
      clear ALL
      go_roundw
      case rel => exact ⟨k1, some ⟨q, 0, none⟩, cap, by rw [← HK1.out]; go_num, by have := HK1.out; omega, Lib.hid (row10_set8b HR4.out (by omega) _), Lib.hid (row10_set8 HC4.out _), Lib.hid (HK4.out.at (fun j _ hj => Below.heap_setCell _ _ _ _ (by show j ≠ w1.heap.size; omega))), Lib.hid (bsc HB4.out hs1 _), Lib.hid (Vr.setV HV5.out (by omega) _)⟩
      case measure => simp [intOf]; omega
    · have hk1 : k = N := by omega
      subst hk1
      have HT : Hid (((srt kv).map Prod.snd).take k = (srt kv).map Prod.snd) := Lib.hid (List.take_of_length_le (by rw [List.length_map, HSL.out]; exact Nat.le_refl _))
      obtain ⟨a0, a1, a2, a3, a4, a5, a6, a7, a8, a9⟩ := HR.out.parts
      have al := HR.out.lt
      have af := HR.out.free
      have hge : ¬ (k : Int) < (k : Int) := by omega
      go_wp2
      obtain ⟨y0, y1, y2, y3, y4, y5, y6, y7, y8, y9⟩ := (HR.out.set10 (.int .i64 8) (.bool false) (.int .u64 0) (.int .u64 0) (.int .u64 0) (.int .u64 0) (.int .u64 0) (.string ⟨#[]⟩) (.slice la k lc) (.slice ak k kc)).parts
      refine bodyPost_ret (v := V10 8 false 0 0 0 0 0 ⟨#[]⟩ la k lc ak k kc) (by simp [results, Tryz.results75, go_sem, y0, y1, y2, y3, y4, y5, y6, y7, y8, y9]) rfl ?_
      have SS := ButS.set10 (S := fun k => k = w.heap.size) wr (c := w.heap.size) rfl (.int .i64 8) (.bool false) (.int .u64 0) (.int .u64 0) (.int .u64 0) (.int .u64 0) (.int .u64 0) (.string ⟨#[]⟩) (.slice la k lc) (.slice ak k kc)
      have hG := HG.out
      have hV9 := HV.out
      rw [HT.out] at hV9
      obtain ⟨n1, n2, n3, n4⟩ := (Vr.set10 hV9 (b := w.heap.size) (by omega) (.int .i64 8) (.bool false) (.int .u64 0) (.int .u64 0) (.int .u64 0) (.int .u64 0) (.int .u64 0) (.string ⟨#[]⟩) (.slice la k lc) (.slice ak k kc)).liesG (by rw [List.length_map, HSL.out])
      have hky := HK.out.at (W' := _) (fun j hj hj2 => SS.block j (by omega) (by show ¬ j = w.heap.size; omega))
      refine ⟨la, lc, ak, kc, rfl, fun ad h => by have := n3 ad h; omega, fun ad hp h => ?_, ?_, vbscJ HB.out (Nat.le_refl _) _ _ _ _ _ _ _ _ _ _⟩
      · obtain ⟨p, hp⟩ : ∃ p, ((srt kv).map Prod.fst)[0]? = some p := ⟨_, List.getElem?_eq_getElem (by rw [List.length_map, HSL.out]; exact hp)⟩
        obtain ⟨gk, h1, h2, _⟩ := hky 0 p hp
        rw [h1] at h
        cases h
        show w.heap.size ≤ gk
        omega
      · refine .mk _ _ ⟨⟨by show (-9223372036854775808 : Int) ≤ 8; omega, by show (8 : Int) ≤ 9223372036854775807; omega⟩, by show (0 : Nat) < 2 ^ 256; decide, ⟨Int.le_refl _, by show (0 : Int) ≤ 18446744073709551615; omega⟩, Nat.zero_le _, ⟨by rw [List.length_map, HSL.out]; exact n1, n2⟩, ⟨by show ((srt kv).map (fun p => str p.1)).length ≤ kc; rw [List.length_map, HSL.out]; exact hG.1, hG.2⟩, fun s h => ?_⟩ ?_ n4 (fun i t h => ?_)
        · obtain ⟨p, hp, rfl⟩ := List.mem_map.1 h
          have := HXL.out p ((srt_perm kv).mem_iff.1 hp)
          rw [str_size]
          unfold maxLen
          omega
        · cases hh : ((srt kv).map Prod.fst)[0]? with
          | none =>
            have h0 : ((srt kv).map Prod.fst) = [] := by
              have := List.getElem?_eq_none_iff.1 hh
              exact List.length_eq_zero_iff.1 (by omega)
            have h00 : srt kv = [] := List.map_eq_nil_iff.1 h0
            refine ⟨0, 0, fun h => ?_, fun i s hi => ?_⟩
            · rw [show ((srt kv).map (fun p => str p.1)) = [] from by rw [h00]; rfl] at h
              exact absurd h (by simp)
            · have hi' : ((srt kv).map (fun p => str p.1))[i]? = some s := hi
              rw [h00] at hi'
              simp at hi'
          | some p =>
            obtain ⟨gk, h1, _, _, _⟩ := hky 0 p hh
            refine ⟨gk, 0, fun _ => h1, fun i s hi => ?_⟩
            have hi' : ((srt kv).map (fun p => str p.1))[i]? = some s := hi
            rw [List.getElem?_map, Option.map_eq_some_iff] at hi'
            obtain ⟨p2, hp2, rfl⟩ := hi'
            obtain ⟨gk2, h2, _, _, h3⟩ := hky i p2.1 (by rw [List.getElem?_map, hp2]; rfl)
            rw [h1] at h2
            cases h2
            rw [Nat.zero_add]
            exact h3
        · have hi' : ((srt kv).map Prod.snd)[i]? = some t := h
          rw [List.getElem?_map, Option.map_eq_some_iff] at hi'
          obtain ⟨p2, hp2, rfl⟩ := hi'
          have hI0 := HI.out p2 ((srt_perm kv).mem_iff.1 (List.mem_of_getElem? hp2))
          have hI1 := hI0.keep HB.out
          exact SS.keep hI1 (hI0.old.mono (fun k hk => by show w.heap.size ≤ k; rw [show k = w.heap.size from hk]; exact Nat.le_refl _))
end Go.Proofs.YtebfggiodhaahaaGreatDoor
end
section
namespace Go.Proofs.YtebfggiodhaahaaGreatDoor
open Go.RowKit Go.Shelf Go.Maps
set_option linter.unusedVariables false

end Go.Proofs.YtebfggiodhaahaaGreatDoor
end
section
namespace Go.Proofs.YtebfggiodhaahaaGreatDoor
open Go.RowKit Go.Shelf Go.Maps Go.Sort
set_option linter.unusedVariables false

/-- Members, from the first one on; P: what a value's text means. -/
inductive JO (P : List UInt8 → VT → List UInt8 → Bool → Bool → Prop) : List UInt8 → List (List UInt8 × VT) → List UInt8 → Bool → Bool → Prop
  | last {l x r2 r3 r : List UInt8} {T : VT} {lg un : Bool} (hn : JN l x r2) (hv : P r2 T r3 lg un) (hl : r3.length < r2.length) (h : jskip r3 = 125 :: r) : JO P l [(x, T)] r lg un
  | more {l x r2 r3 l2 r : List UInt8} {T : VT} {kv : List (List UInt8 × VT)} {lg un lg2 un2 : Bool} (hn : JN l x r2) (hv : P r2 T r3 lg un) (hl : r3.length < r2.length) (h : jskip r3 = 44 :: l2) (ha : JO P l2 kv r lg2 un2) : JO P l ((x, T) :: kv) r (lg || lg2) (un || un2)
/-- A map of any members. -/
def objO (kv : List (List UInt8 × VT)) : VT := .mk ⟨8, false, 0, 0, ⟨#[]⟩, none, 0, none, 0, (srt kv).map (fun p => str p.1)⟩ ((srt kv).map Prod.snd)
theorem er_objO {la : Option Addr} {lc : Nat} {ka : Option Addr} {kc : Nat} (kv : List (List UInt8 × VT)) : er (.mk ⟨8, false, 0, 0, ⟨#[]⟩, la, lc, ka, kc, (srt kv).map (fun p => str p.1)⟩ ((srt kv).map Prod.snd)) = objO (kv.map (fun p => (p.1, er p.2))) := by
  have h1 : srt (kv.map (fun p => (p.1, er p.2))) = (srt kv).map (fun p => (p.1, er p.2)) := by
    unfold srt
    exact (List.map_mergeSort (f := fun (p : List UInt8 × VT) => (p.1, er p.2)) (fun _ _ _ _ => rfl)).symm
  rw [er_mk]
  unfold objO
  rw [h1, List.map_map, List.map_map, List.map_map]
  rfl
end Go.Proofs.YtebfggiodhaahaaGreatDoor
end
section
namespace Go.Proofs.YtebfggiodhaahaaGreatDoor
open Go.RowKit Go.Shelf
set_option linter.unusedVariables false

/-- Elements, from the first one on; P: what a value's text means. -/
inductive JAP (P : List UInt8 → VT → List UInt8 → Bool → Bool → Prop) : List UInt8 → List VT → List UInt8 → Bool → Bool → Prop
  | last {t r1 r : List UInt8} {T : VT} {lg un : Bool} (hv : P t T r1 lg un) (hl : r1.length < (jskip t).length) (h : jskip r1 = 93 :: r) : JAP P t [T] r lg un
  | more {t r1 t2 r : List UInt8} {T : VT} {Ts : List VT} {lg un lg2 un2 : Bool} (hv : P t T r1 lg un) (hl : r1.length < (jskip t).length) (h : jskip r1 = 44 :: t2) (ha : JAP P t2 Ts r lg2 un2) : JAP P t (T :: Ts) r (lg || lg2) (un || un2)
end Go.Proofs.YtebfggiodhaahaaGreatDoor
end
