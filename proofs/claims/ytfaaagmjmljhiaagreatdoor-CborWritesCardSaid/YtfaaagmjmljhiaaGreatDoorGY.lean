/-
  CbOrd CbEncT CbSort CbPlc CbArr CbMap CbEnc CbListT, one behind the other: a claim holds at most 60 files.
-/
import Derived.Test.YtfaaagmjmljhiaaGreatDoorGX
import Derived.Test.YtfaaagmjmljhiaaGreatDoorValNames
import Derived.Shelf.SlSortCmp.Insertion
import Derived.Test.YtfaaagmjmljhiaaGreatDoorGJ
import Derived.Test.YtfaaagmjmljhiaaGreatDoorValMay
import Derived.Test.YtfaaagmjmljhiaaGreatDoorCbSortL
import Derived.Test.YtfaaagmjmljhiaaGreatDoorShelf
import Derived.Lib.QuietBelow
import Derived.Deep.Draws
import Derived.Deep.RegionHeld3
import Derived.Deep.OwnRows
import Derived.Test.YtfaaagmjmljhiaaGreatDoorGS
import Derived.Test.YtfaaagmjmljhiaaGreatDoorValFew
section
namespace Go.Proofs.YtfaaagmjmljhiaaGreatDoor
open Go.RowKit Go.Shelf

theorem tri9 : ∀ x y : List UInt8, x < y ∨ x = y ∨ y < x
  | [], [] => .inr (.inl rfl)
  | [], _ :: _ => .inl (List.nil_lt_cons _ _)
  | _ :: _, [] => .inr (.inr (List.nil_lt_cons _ _))
  | a :: x, b :: y => by
    rcases Nat.lt_trichotomy a.toNat b.toNat with h | h | h
    · exact .inl (List.cons_lt_cons_iff.2 (.inl (UInt8.lt_iff_toNat_lt.2 h)))
    · obtain rfl := UInt8.toNat_inj.1 h
      rcases tri9 x y with h | h | h
      · exact .inl (List.cons_lt_cons_iff.2 (.inr ⟨rfl, h⟩))
      · exact .inr (.inl (by rw [h]))
      · exact .inr (.inr (List.cons_lt_cons_iff.2 (.inr ⟨rfl, h⟩)))
    · exact .inr (.inr (List.cons_lt_cons_iff.2 (.inl (UInt8.lt_iff_toNat_lt.2 h))))
theorem less_of9 : ∀ x y : List UInt8, x < y → Op.bytesLess x y = true
  | [], [], h => absurd h (List.lt_irrefl _)
  | [], _ :: _, _ => by simp [Op.bytesLess]
  | _ :: _, [], h => absurd h (List.not_lt_nil _)
  | a :: x, b :: y, h => by
    rw [Op.bytesLess]
    rcases List.cons_lt_cons_iff.1 h with h1 | ⟨rfl, h1⟩
    · simp [h1]
    · simp [less_of9 x y h1]
theorem leS_no9 {a b : ByteArray} (h : leS a b = false) : b.toList < a.toList := by
  unfold leS at h
  rw [Bool.or_eq_false_iff, beq_eq_false_iff_ne] at h
  rcases tri9 a.toList b.toList with h1 | h1 | h1
  · rw [less_of9 _ _ h1] at h; exact absurd h.1 (by simp)
  · exact absurd h1 h.2
  · exact h1
/-- Names that rise are apart. -/
theorem names_rise9 {keys : List ByteArray} (h : namesB keys = true) : ∀ (j i : Nat) (a b : ByteArray), i < j → keys[i]? = some a → keys[j]? = some b → a.toList < b.toList := by
  unfold namesB at h
  rw [List.all_eq_true] at h
  intro j
  induction j with
  | zero => intro i a b hi; omega
  | succ j ih =>
    intro i a b hi ha hb
    have hlt := (List.getElem?_eq_some_iff.1 hb).1
    have hc : keys[j]? = some keys[j] := List.getElem?_eq_getElem (by omega)
    have hk := h (j + 1) (List.mem_range.2 hlt)
    unfold keyOk at hk
    rw [getD_at hb, Nat.add_sub_cancel, getD_at hc, Bool.and_eq_true] at hk
    have h2 := hk.2
    have h3 : leS b keys[j] = false := by simpa using h2
    have h4 := leS_no9 h3
    by_cases hij : i = j
    · subst hij
      rw [hc] at ha
      cases ha
      exact h4
    · exact List.lt_trans (ih i a keys[j] (by omega) ha hc) h4

/-- Bytes as numbers. -/
def bl (l : List UInt8) : List Int := l.map fun c => (c.toNat : Int)
theorem bl_cons (a : UInt8) (l : List UInt8) : bl (a :: l) = (a.toNat : Int) :: bl l := rfl
theorem cmpBytes_lexc : ∀ x y : List UInt8, Lib.compareBytes x y = lexc (bl x) (bl y)
  | [], [] => rfl
  | [], _ :: _ => rfl
  | _ :: _, [] => rfl
  | a :: x, b :: y => by
    rw [Lib.compareBytes, bl_cons, bl_cons, lexc, cmpBytes_lexc x y]
    simp only [UInt8.lt_iff_toNat_lt, Int.ofNat_lt]
theorem bl_inj : ∀ {x y : List UInt8}, bl x = bl y → x = y
  | [], [], _ => rfl
  | [], _ :: _, h => by cases h
  | _ :: _, [], h => by cases h
  | a :: x, b :: y, h => by
    rw [bl_cons, bl_cons, List.cons.injEq] at h
    rw [bl_inj h.2, UInt8.toNat_inj.1 (Int.ofNat_inj.1 h.1)]
/-- A name as numbers: its length, then its bytes. -/
def kl (s : ByteArray) : List Int := (s.size : Int) :: bl s.data.toList
theorem kl_inj {a b : ByteArray} (h : kl a = kl b) : a = b := by
  unfold kl at h
  rw [List.cons.injEq] at h
  have := bl_inj h.2
  cases a; cases b
  simpa using this
/-- Which name stands first. -/
def kcmp (a b : ByteArray) : Int := ord (Lib.compareInt (a.size : Int) (b.size : Int)) (Lib.compareBytes a.data.toList b.data.toList)
theorem kcmp_lexc (a b : ByteArray) : kcmp a b = lexc (kl a) (kl b) := by
  unfold kcmp kl
  rw [lexc_cons, cmpBytes_lexc]
theorem lexc_neg {a b : List Int} : lexc a b < 0 ↔ lexc a b = -1 := by
  have := lexc_three a b
  omega
theorem ltOf_k {α : Type} (f : α → ByteArray) (x y : α) : ltOf (fun x y => kcmp (f x) (f y)) x y = decide (lexc (kl (f x)) (kl (f y)) = -1) := by
  show decide (kcmp (f x) (f y) < 0) = _
  rw [kcmp_lexc]
  exact decide_eq_decide.2 lexc_neg
theorem lexc_n {a b c : List Int} (h1 : lexc a b ≠ -1) (h2 : lexc b c ≠ -1) : lexc a c ≠ -1 := by
  intro h
  rcases lexc_three a b with h3 | h3 | h3
  · exact h1 h3
  · rw [lexc_zero _ _ h3] at h; exact h2 h
  · have h4 : lexc b a = -1 := by rw [lexc_anti]; omega
    exact h2 (lexc_less _ _ _ h4 h)
theorem swoK {α : Type} (f : α → ByteArray) : Go.Sort.SWO (ltOf fun x y => kcmp (f x) (f y)) where
  irrefl x := by rw [ltOf_k, lexc_self]; decide
  trans x y z h1 h2 := by
    rw [ltOf_k] at *
    exact decide_eq_true (lexc_less _ _ _ (of_decide_eq_true h1) (of_decide_eq_true h2))
  ntrans x y z h1 h2 := by
    rw [ltOf_k] at *
    exact decide_eq_false (lexc_n (of_decide_eq_false h1) (of_decide_eq_false h2))

/-- A place among places that rise. -/
def insK (f : Nat → List Int) (x : Nat) : List Nat → List Nat
  | [] => [x]
  | y :: l => if lexc (f x) (f y) = -1 then x :: y :: l else y :: insK f x l
theorem insK_perm (f : Nat → List Int) (x : Nat) : ∀ l, (insK f x l).Perm (x :: l)
  | [] => List.Perm.refl _
  | y :: l => by
    unfold insK
    split
    · exact List.Perm.refl _
    · exact ((insK_perm f x l).cons y).trans (List.Perm.swap x y l)
abbrev Rises (f : Nat → List Int) (l : List Nat) : Prop := l.Pairwise fun a b => lexc (f a) (f b) = -1
theorem insK_rises (f : Nat → List Int) (x : Nat) : ∀ l, Rises f l → (∀ y ∈ l, lexc (f x) (f y) ≠ 0) → Rises f (insK f x l)
  | [], _, _ => List.pairwise_singleton _ _
  | y :: l, h, hx => by
    have h' := List.pairwise_cons.1 h
    unfold insK
    split
    · rename_i hl
      refine List.pairwise_cons.2 ⟨fun z hz => ?_, h⟩
      rcases List.mem_cons.1 hz with rfl | hz
      · exact hl
      · exact lexc_less _ _ _ hl (h'.1 z hz)
    · rename_i hl
      refine List.pairwise_cons.2 ⟨fun z hz => ?_, insK_rises f x l h'.2 fun z hz => hx z (List.mem_cons_of_mem _ hz)⟩
      rcases List.mem_cons.1 ((insK_perm f x l).mem_iff.1 hz) with rfl | hz
      · have h1 := lexc_three (f z) (f y)
        have h2 := hx y (List.mem_cons_self ..)
        rw [lexc_anti]
        omega
      · exact h'.1 z hz
/-- The places below n, as they rise. -/
def plc (f : Nat → List Int) (n : Nat) : List Nat := (List.range n).foldl (fun acc x => insK f x acc) []
theorem plc_succ (f : Nat → List Int) (n : Nat) : plc f (n + 1) = insK f n (plc f n) := by
  unfold plc
  rw [List.range_succ, List.foldl_append]
  rfl
theorem plc_perm (f : Nat → List Int) : ∀ n, (plc f n).Perm (List.range n)
  | 0 => List.Perm.refl _
  | n + 1 => by
    rw [plc_succ, List.range_succ]
    exact ((insK_perm f n _).trans ((plc_perm f n).cons n)).trans (List.perm_append_singleton n (List.range n)).symm
theorem plc_lt {f : Nat → List Int} {n x : Nat} (h : x ∈ plc f n) : x < n := List.mem_range.1 ((plc_perm f n).mem_iff.1 h)
theorem plc_len (f : Nat → List Int) (n : Nat) : (plc f n).length = n := by rw [(plc_perm f n).length_eq, List.length_range]
/-- What is told apart below n. -/
def Apart (f : Nat → List Int) (n : Nat) : Prop := ∀ i j, i < n → j < n → lexc (f i) (f j) = 0 → i = j
theorem plc_rises (f : Nat → List Int) : ∀ n, Apart f n → Rises f (plc f n)
  | 0, _ => List.Pairwise.nil
  | n + 1, h => by
    rw [plc_succ]
    refine insK_rises f n _ (plc_rises f n fun i j hi hj => h i j (by omega) (by omega)) fun y hy h0 => ?_
    have := h n y (by omega) (by have := plc_lt hy; omega) h0
    have := plc_lt hy
    omega
theorem rises_uniq (f : Nat → List Int) : ∀ {l m : List Nat}, l.Perm m → Rises f l → Rises f m → l = m
  | [], m, hp, _, _ => (List.nil_perm.1 hp).symm
  | a :: l, [], hp, _, _ => absurd hp.length_eq (by simp)
  | a :: l, b :: m, hp, hl, hm => by
    have hl' := List.pairwise_cons.1 hl
    have hm' := List.pairwise_cons.1 hm
    by_cases e : a = b
    · subst e
      rw [rises_uniq f ((List.perm_cons a).1 hp) hl'.2 hm'.2]
    · exfalso
      have ha : a ∈ b :: m := hp.mem_iff.1 (List.mem_cons_self ..)
      have hb : b ∈ a :: l := hp.mem_iff.2 (List.mem_cons_self ..)
      have h1 : a ∈ m := by rcases List.mem_cons.1 ha with h | h; exact absurd h e; exact h
      have h2 : b ∈ l := by rcases List.mem_cons.1 hb with h | h; exact absurd h.symm e; exact h
      have h3 := hm'.1 a h1
      have h4 := hl'.1 b h2
      rw [lexc_anti] at h3
      omega
/-- What is sorted and holds just the places below n. -/
theorem plc_is (f : Nat → List Int) (n : Nat) (ha : Apart f n) {l : List Nat} (hp : l.Perm (List.range n)) (hs : l.Pairwise fun a b => lexc (f b) (f a) ≠ -1) : l = plc f n := by
  refine rises_uniq f (hp.trans (plc_perm f n).symm) ?_ (plc_rises f n ha)
  have hnd : l.Nodup := hp.nodup_iff.2 List.nodup_range
  refine (List.Pairwise.and hs hnd).imp_of_mem fun {a b} hma hmb h => ?_
  have h1 := lexc_three (f a) (f b)
  have h2 := h.1
  rw [lexc_anti] at h2
  have h3 : lexc (f a) (f b) ≠ 0 := fun h0 => h.2 (ha a b (List.mem_range.1 (hp.mem_iff.1 hma)) (List.mem_range.1 (hp.mem_iff.1 hmb)) h0)
  omega
/-- A map's names, by their places. -/
def kf (keys : List ByteArray) (i : Nat) : List Int := kl (keys.getD i ⟨#[]⟩)
theorem names_apart {keys : List ByteArray} (hN : namesB keys = true) : Apart (kf keys) keys.length := by
  intro i j hi hj h0
  have hi' : keys[i]? = some keys[i] := List.getElem?_eq_getElem hi
  have hj' : keys[j]? = some keys[j] := List.getElem?_eq_getElem hj
  have h1 := lexc_zero _ _ h0
  unfold kf at h1
  rw [getD_at hi', getD_at hj'] at h1
  have h2 := kl_inj h1
  rcases Nat.lt_trichotomy i j with h | h | h
  · have := names_rise9 hN j i _ _ h hi' hj'
    rw [h2] at this
    exact absurd this (List.lt_irrefl _)
  · exact h
  · have := names_rise9 hN i j _ _ h hj' hi'
    rw [h2] at this
    exact absurd this (List.lt_irrefl _)
/-- The places of a map's names in the order of their bytes. -/
def places (keys : List ByteArray) : List Nat := plc (kf keys) keys.length
end Go.Proofs.YtfaaagmjmljhiaaGreatDoor
end
section
namespace Go.Proofs.YtfaaagmjmljhiaaGreatDoor
open Go.RowKit Go.Shelf

/-- A member's bytes. -/
def memB (keys : List ByteArray) (E : List (List UInt8)) (i : Nat) : List UInt8 := (hds 3 (keys.getD i ⟨#[]⟩).size ++ (keys.getD i ⟨#[]⟩).data.toList) ++ E.getD i []
/-- A value's bytes, by its own parts and its parts' bytes. -/
def encO (o : Own) (n : Nat) (E : List (List UInt8)) : List UInt8 :=
  if o.kind = 2 then hds 7 (20 + o.bits.toNat)
  else if o.kind = 3 then intB o.g o.x
  else if o.kind = 4 then fltB o.bits.toNat
  else if o.kind = 5 then hds 3 o.text.size ++ o.text.data.toList
  else if o.kind = 6 then hds 2 o.text.size ++ o.text.data.toList
  else if o.kind = 7 then hds 4 n ++ E.flatten
  else if o.kind = 8 then hds 5 o.keys.length ++ (places o.keys).flatMap (memB o.keys E)
  else hds 7 22
def encT : VT → List UInt8
  | .mk o kids => encO o kids.length (kids.map fun k => encT k)
theorem encT_mk (o : Own) (kids : List VT) : encT (.mk o kids) = encO o kids.length (kids.map encT) := by rw [encT]

/-- What is r behind l, of f, where what is above 65536 bytes may be broken off. -/
def Lim (l f r : List UInt8) (M : Nat) : Prop := (l.length + f.length ≤ 65536 → r = l ++ f) ∧ (65536 < l.length + f.length → 65536 < r.length) ∧ r.length ≤ max l.length 65536 + M
theorem Lim.leaf {l f : List UInt8} {M : Nat} (h : f.length ≤ M) : Lim l f (l ++ f) M := ⟨fun _ => rfl, fun h2 => by rw [List.length_append]; exact h2, by rw [List.length_append]; omega⟩
theorem Lim.next {l f r g s : List UInt8} {M N : Nat} (h : Lim l f r M) (hr : r.length ≤ 65536) (k : Lim r g s N) (hN : N ≤ M) : Lim l (f ++ g) s M := by
  have h1 : l.length + f.length ≤ 65536 := by
    rcases Nat.lt_or_ge 65536 (l.length + f.length) with h2 | h2
    · have := h.2.1 h2; omega
    · exact h2
  obtain rfl := h.1 h1
  rw [List.length_append] at hr
  have k1 := k.1; have k2 := k.2.1; have k3 := k.2.2
  rw [List.length_append] at k1 k2 k3
  refine ⟨fun h2 => ?_, fun h2 => ?_, by omega⟩
  · rw [List.length_append] at h2
    rw [k1 (by omega), List.append_assoc]
  · rw [List.length_append] at h2
    exact k2 (by omega)
theorem Lim.stop {l f r : List UInt8} {M : Nat} (h : Lim l f r M) (hr : 65536 < r.length) (g : List UInt8) : Lim l (f ++ g) r M := by
  refine ⟨fun h2 => ?_, fun _ => hr, h.2.2⟩
  rw [List.length_append] at h2
  have := congrArg List.length (h.1 (by omega))
  rw [List.length_append] at this
  omega
theorem Lim.ahead {r k g s : List UInt8} {M N : Nat} (h : Lim (r ++ k) g s N) (hr : r.length ≤ 65536) (hk : k.length + N ≤ M) : Lim r (k ++ g) s M := by
  have h1 := h.1; have h2 := h.2.1; have h3 := h.2.2
  rw [List.length_append] at h1 h2 h3
  refine ⟨fun h4 => ?_, fun h4 => ?_, by omega⟩
  · rw [List.length_append] at h4
    rw [h1 (by omega), List.append_assoc]
  · rw [List.length_append] at h4
    exact h2 (by omega)
theorem Lim.mono {l f r : List UInt8} {M N : Nat} (h : Lim l f r M) (hM : M ≤ N) : Lim l f r N := ⟨h.1, h.2.1, by have := h.2.2; omega⟩
/-- From an empty row on. -/
theorem Lim.told {f r : List UInt8} {M : Nat} (h : Lim [] f r M) : (f.length ≤ 65536 → r = f) ∧ (65536 < f.length → 65536 < r.length) ∧ r.length ≤ 65536 + M := by
  have h1 := h.1; have h2 := h.2.1; have h3 := h.2.2
  simp only [List.length_nil, Nat.zero_add, List.nil_append] at h1 h2 h3
  exact ⟨h1, h2, by omega⟩
theorem flat_next {α : Type} {E : List (List α)} {k : Nat} {e : List α} (h : E[k]? = some e) : (E.take (k + 1)).flatten = (E.take k).flatten ++ e := by
  rw [take_next h, List.flatten_append]; simp
theorem flatMap_next {α β : Type} {E : List α} {f : α → List β} {k : Nat} {e : α} (h : E[k]? = some e) : (E.take (k + 1)).flatMap f = (E.take k).flatMap f ++ f e := by
  rw [take_next h, List.flatMap_append]; simp
theorem flat_rest {α : Type} (E : List (List α)) (k : Nat) : E.flatten = (E.take k).flatten ++ (E.drop k).flatten := by
  conv => lhs; rw [← List.take_append_drop k E]
  rw [List.flatten_append]
theorem flatMap_rest {α β : Type} (E : List α) (f : α → List β) (k : Nat) : E.flatMap f = (E.take k).flatMap f ++ (E.drop k).flatMap f := by
  conv => lhs; rw [← List.take_append_drop k E]
  rw [List.flatMap_append]

/-- Such as may be: not too great, not wrong, anywhere. -/
def Gd (T : VT) : Prop := hasT overT T = false ∧ Good T
theorem Gd.kid {o : Own} {l : List VT} (h : Gd (.mk o l)) {t : VT} (ht : t ∈ l) : Gd t := ⟨(hasT_false h.1).2 t ht, h.2.kid ht⟩
theorem Gd.over {o : Own} {l : List VT} (h : Gd (.mk o l)) : overB o l.length = false := (hasT_false h.1).1
theorem every_x {W : World} : ∀ {T : VT}, T.In W → T.Every fun o => o.x < 2 ^ 256 := by
  intro T
  induction T using VT.ind with
  | h o kids ih =>
    intro h
    exact .mk o kids h.wf.2.1 fun t ht => ih t ht (h.mem ht)
theorem gd_of {T : VT} {W : World} (hI : T.In W) (hm : mayN T = 0) : Gd T ∧ T.depth ≤ 16 := by
  unfold mayN at hm
  split at hm
  · cases hm
  · split at hm
    · cases hm
    · split at hm
      · cases hm
      · rename_i h1 h2 h3
        exact ⟨⟨by simpa using h2, by simpa using h3, every_x hI⟩, by omega⟩
end Go.Proofs.YtfaaagmjmljhiaaGreatDoor
end
section
namespace Go.Proofs.YtfaaagmjmljhiaaGreatDoor
open Go.RowKit Go.Shelf
open Go.Sort (grow PermIn SortedIn Holds)
set_option linter.unusedVariables false

/-- Of what was there nothing has turned, and the draws are not fewer. -/
def Gq (w w' : World) : Prop := Below w.heap.size w w' ∧ w.drawn ≤ w'.drawn
theorem Gq.refl (w : World) : Gq w w := ⟨Below.refl _ _, Nat.le_refl _⟩
theorem gqal {w X : World} (h : Gq w X) (o : Obj) : Gq w (X.alloc o) := ⟨bal h.1 o, h.2⟩
theorem gqdw {w X : World} (h : Gq w X) : Gq w X.drew := ⟨h.1.drew, Nat.le_succ_of_le h.2⟩
theorem gqdn {w X : World} (h : Gq w X) (n : Nat) : Gq w (X.drewN n) := ⟨bdn h.1 n, Nat.le_trans h.2 (Nat.le_add_right _ _)⟩
theorem gqtr {w X Y : World} (h : Gq w X) (k : Gq X Y) : Gq w Y := ⟨btr h.1 k.1, Nat.le_trans h.2 k.2⟩
theorem Gq.grown {w w' : World} (h : Gq w w') : ∃ (q : Nat) (os : Array Obj), w' = grow (w.drewN q) os := by
  obtain ⟨p, hp⟩ := regrown_of_below h.1
  have hd : w'.drawn = p.d := by rw [hp]; rfl
  refine ⟨p.d - w.drawn, p.os, ?_⟩
  rw [hp]
  have : redrawn w p.d = w.drewN (p.d - w.drawn) := by
    unfold redrawn World.drewN
    rw [Nat.add_sub_cancel' (by rw [← hd]; exact h.2)]
  rw [this]

/-- The first that is not 0, of two. -/
theorem or_two (b : Nat) (x y : Int) (w : World) (h0 : w.cell? ⟨b, 0, none⟩ = some (.int .i64 x)) (h1 : w.cell? ⟨b, 1, none⟩ = some (.int .i64 y)) :
    Calls Tryz.prog 95 #[.slice (some ⟨b, 0, none⟩) 2 2] w fun e w' => e = .returned (.int .i64 (ord x y)) ∧ w' = w := by
  by_cases hx : x = 0
  · subst hx
    rw [ord_zero]
    by_cases hy : y = 0
    · subst hy
      go_enter Tryz.func95, Tryz.ntmps95
      go_wp2
      refine wp_loop_rounds 4 ?_
      rw [rounds_succ]
      go_wp2
      rw [rounds_succ]
      go_wp2
      rw [rounds_succ]
      go_wp2
      go_ret
      exact ⟨rfl, rfl⟩
    · have hn : (y != 0) = true := by simpa using hy
      go_enter Tryz.func95, Tryz.ntmps95
      go_wp2
      refine wp_loop_rounds 4 ?_
      rw [rounds_succ]
      go_wp2
      rw [rounds_succ]
      go_wp2
      go_ret
      exact ⟨rfl, rfl⟩
  · have hn : (x != 0) = true := by simpa using hx
    rw [ord_ne hx]
    go_enter Tryz.func95, Tryz.ntmps95
    go_wp2
    refine wp_loop_rounds 4 ?_
    rw [rounds_succ]
    go_wp2
    go_ret
    exact ⟨rfl, rfl⟩

/-- What the function that sorts reads. -/
def Kc (w : World) (c kb oi oj : Nat) (K : Value) (a b : ByteArray) : Prop := w.cell? ⟨c, 0, none⟩ = some K ∧ w.cell? ⟨kb, oi, none⟩ = some (.string a) ∧ w.cell? ⟨kb, oj, none⟩ = some (.string b)
theorem Kc.keep {w w' : World} {c kb oi oj : Nat} {K : Value} {a b : ByteArray} (hb : Below w.heap.size w w') (h : Kc w c kb oi oj K a b) : Kc w' c kb oi oj K a b := ⟨cell_keep hb h.1, cell_keep hb h.2.1, cell_keep hb h.2.2⟩
theorem Kc.alloc {w : World} {c kb oi oj : Nat} {K : Value} {a b : ByteArray} (h : Kc w c kb oi oj K a b) (o : Obj) : Kc (w.alloc o) c kb oi oj K a b := h.keep (bal (Below.refl _ _) o)
theorem Kc.drew {w : World} {c kb oi oj : Nat} {K : Value} {a b : ByteArray} (h : Kc w c kb oi oj K a b) : Kc w.drew c kb oi oj K a b := h
theorem Kc.drewN {w : World} {c kb oi oj : Nat} {K : Value} {a b : ByteArray} (h : Kc w c kb oi oj K a b) (n : Nat) : Kc (w.drewN n) c kb oi oj K a b := h
set_option maxRecDepth 100000 in
set_option maxHeartbeats 4000000 in
theorem lessK (c kb koff m kc i j : Nat) (hi : i < m) (hj : j < m) (hm : m ≤ 1000000) (a b : ByteArray) (w : World) (h : Kc w c kb (koff + i) (koff + j) (.slice (some ⟨kb, koff, none⟩) m kc) a b) :
    Calls Tryz.prog 94 #[.int .i64 i, .int .i64 j, .pointer (some ⟨c, 0, none⟩)] w fun e w' => e = .returned (.int .i64 (kcmp a b)) ∧ Gq w w' := by
  unfold kcmp
  have G0 := Lib.hid (Gq.refl w)
  go_enter Tryz.func94, Tryz.ntmps94
  go_wp2
  go_region_held3 (fun w' => w'.cell? ⟨c, 0, none⟩ = some (.slice (some ⟨kb, koff, none⟩) m kc) ∧ w'.cell? ⟨kb, koff + i, none⟩ = some (.string a) ∧ w'.cell? ⟨kb, koff + j, none⟩ = some (.string b))
    ((refine (show Kc _ _ _ _ _ _ _ _ from ?_); (repeat (first | (with_reducible assumption) | (with_reducible refine Kc.alloc ?_ _) | (with_reducible refine Kc.drew ?_) | (with_reducible refine Kc.drewN ?_ _))); done))
    (first | (go_at_call 96; refine (Tryz.cmp_Compare_int _ _ _).mono ?_; rintro e w9 ⟨rfl, rfl⟩) | (go_at_call 97; refine (Tryz.strings_Compare _ _ _).mono ?_; rintro e w9 ⟨rfl, rfl⟩) | (go_at_call 95; refine (or_two _ _ _ _ (cell_of_row _ _ 0 _ _ _ (heap_alloc_new _ _)) (cell_of_row _ _ 1 _ _ _ (heap_alloc_new _ _))).mono ?_; rintro e w9 ⟨rfl, rfl⟩))
  all_goals
    go_wp2
    go_ret
    refine ⟨rfl, ?_⟩
    repeat (first | exact Gq.refl _ | refine gqal ?_ _ | refine gqdw ?_ | refine gqdn ?_ _)
end Go.Proofs.YtfaaagmjmljhiaaGreatDoor
end
section
namespace Go.Proofs.YtfaaagmjmljhiaaGreatDoor
open Go.RowKit Go.Shelf
open Go.Sort (grow PermIn SortedIn Holds)
set_option linter.unusedVariables false

/-- Numbers as cells. -/
def I64s (l : List Nat) : List Value := l.map fun x : Nat => Value.int .i64 (x : Int)
/-- Block g is just these numbers. -/
def Ik (W : World) (g : Nat) (l : List Nat) : Prop := W.heap[g]? = some (.cells (I64s l).toArray 3 (0, 0))
theorem Ik.lt {W : World} {g : Nat} {l : List Nat} (h : Ik W g l) : g < W.heap.size := by
  unfold Ik at h
  exact (Array.getElem?_eq_some_iff.1 h).1
theorem Ik.free {W : World} {g : Nat} {l : List Nat} (h : Ik W g l) (i : Nat) : W.frozen? ⟨g, i, none⟩ = false := frozen_of_row W g i _ _ h
theorem Ik.at {W : World} {g : Nat} {l : List Nat} (h : Ik W g l) {i x : Nat} (hi : l[i]? = some x) : W.cell? ⟨g, i, none⟩ = some (.int .i64 (x : Int)) := by
  rw [cell_of_row W g i _ _ _ h]
  unfold I64s
  simp [hi]
theorem Ik.set {W : World} {g : Nat} {l : List Nat} (h : Ik W g l) (i x : Nat) : Ik (W.setCell ⟨g, i, none⟩ (.int .i64 (x : Int))) g (l.set i x) := by
  unfold Ik at *
  rw [heap_setCell_same W g i _ _ _ h]
  congr 2
  apply Array.ext'
  simp [I64s, List.map_set]
theorem Ik.keep {W W' : World} {g : Nat} {l : List Nat} (h : Ik W g l) (hb : Below W.heap.size W W') : Ik W' g l := (hb.block g h.lt).trans h
theorem Ik.new (W : World) (l : List Nat) : Ik (W.alloc (.cells (I64s l).toArray 3)) W.heap.size l := heap_alloc_new W _
theorem info_i64 : (Tryz.prog.info? 3).map (fun i => (i.zero, i.size, i.bytes)) = some (some (.int .i64 0), 1, 8) := by kernel_rfl
theorem und_i64s : Tryz.prog.underlying 40 = some (.slice 3) := by kernel_rfl
theorem made_i64 (N : Nat) : madeCells #[.int .i64 0] N = (I64s (List.replicate N 0)).toArray := by
  apply Array.ext'
  apply List.ext_getElem
  · simp [madeCells, I64s]
  · intro i h1 h2
    simp [madeCells, I64s, Nat.mod_one]
theorem make_i64 (N : Nat) (hN : N ≤ 100000) (z : Int) (e : (N : Int) = z) (W : World) :
    (Instr.makeSlice 40 (.int .i64 z) (.int .i64 z)).run Tryz.prog W = .ok (.slice (some ⟨W.heap.size, 0, none⟩) N N) (W.alloc (.cells (I64s (List.replicate N 0)).toArray 3)) := by
  rw [← e, ← made_i64]
  exact run_make_row' 40 3 (.int .i64 0) 8 und_i64s info_i64 rfl .i64 .i64 N (by omega) (by omega) W
theorem set_range (m k : Nat) (h : k < m) : (List.range k ++ List.replicate (m - k) 0).set k k = List.range (k + 1) ++ List.replicate (m - (k + 1)) 0 := by
  rw [List.set_append_right _ _ (by simp), List.length_range, Nat.sub_self, List.range_succ, List.append_assoc, show m - k = (m - (k + 1)) + 1 by omega, List.replicate_succ]
  rfl
/-- These numbers lie in a block. -/
def IntsI (w : World) (g : Nat) (l : List Nat) : Prop := ∀ (i x : Nat), l[i]? = some x → w.cell? ⟨g, i, none⟩ = some (.int .i64 (x : Int))
theorem IntsI.keep {w w' : World} {g : Nat} {l : List Nat} (h : IntsI w g l) (hb : Below w.heap.size w w') : IntsI w' g l := fun i x hi => cell_keep hb (h i x hi)
theorem cell_same {w w' : World} {a : Addr} {v : Value} (h : w'.heap[a.block]? = w.heap[a.block]?) (hc : w.cell? a = some v) : w'.cell? a = some v := by
  rw [← hc]
  unfold World.cell?
  rw [h]
/-- What a sort leaves as it was. -/
theorem sw_block {α : Type} [Inhabited α] (enc : α → Value) (w : World) (g off n : Nat) (d : Array α) (os : Array Obj) {k : Nat} (hk : k < w.heap.size) (hne : k ≠ g) : (sortWorld enc w g off n d os).heap[k]? = w.heap[k]? := by
  have e1 : (sortWorld enc w g off n d os).heap[k]? = (w.heap.modify g (Go.Sort.onCells (Go.Sort.putCells enc off d)))[k]? := by
    simp only [sortWorld, grow, Go.Sort.putRow, Go.Sort.mapBlock]
    rw [Array.getElem?_append_left (by simpa [Go.Sort.ahead] using hk)]
    rfl
  rw [e1, Array.getElem?_modify, if_neg (Ne.symm hne)]
theorem sw_grown {α : Type} [Inhabited α] (enc : α → Value) (w : World) (g off n : Nat) (d : Array α) (os : Array Obj) : w.grownBy (sortWorld enc w g off n d os) (some g) := by
  refine ⟨rfl, rfl, rfl, ?_, fun k hk hne => sw_block enc w g off n d os hk (fun h => hne (by rw [h]))⟩
  simp [sortWorld, grow, Go.Sort.putRow, Go.Sort.mapBlock, Go.Sort.ahead]

/-- slices.SortFunc at the places of names. -/
theorem sort_some (keys : List ByteArray) (h0 : 0 < keys.length) (hm : keys.length ≤ 1000000) (hN : namesB keys = true) (g cap c kb koff kc : Nat) (w : World) (hg : Ik w g (List.range keys.length))
    (hc : w.cell? ⟨c, 0, none⟩ = some (.slice (some ⟨kb, koff, none⟩) keys.length kc)) (hk : ∀ (i : Nat) (s : ByteArray), keys[i]? = some s → w.cell? ⟨kb, koff + i, none⟩ = some (.string s)) (hcg : c ≠ g) (hkg : kb ≠ g) :
    Calls Tryz.prog 93 #[.slice (some ⟨g, 0, none⟩) keys.length cap, .func (.func 94) #[] #[.pointer (some ⟨c, 0, none⟩)]] w fun e w' => e = .returned (.tuple #[]) ∧ IntsI w' g (places keys) ∧ w.grownBy w' (some g) := by
  have hin : Inhabited (Fin keys.length) := ⟨⟨0, h0⟩⟩
  let enc : Fin keys.length → Value := fun i => .int .i64 (i.val : Int)
  let kn : Fin keys.length → ByteArray := fun i => keys.getD i.val ⟨#[]⟩
  let d : Array (Fin keys.length) := Array.ofFn fun i => i
  have hds : d.size = keys.length := Array.size_ofFn
  have hd : ∀ j (hj : j < keys.length), d[j]! = ⟨j, hj⟩ := fun j hj => by
    rw [getElem!_pos d j (by rw [hds]; exact hj)]
    exact Array.getElem_ofFn _
  have hH : Holds enc w g 0 d := fun j hj => by
    have hj' : j < keys.length := by rw [← hds]; exact hj
    rw [hd j hj', Nat.zero_add]
    exact ⟨hg.at (by rw [List.getElem?_range hj']), hg.free j⟩
  have hcmp : CmpLays1 Tryz.prog 94 #[.pointer (some ⟨c, 0, none⟩)] enc (fun x y => kcmp (kn x) (kn y)) g 0 d.size w := by
    intro n os dk hsz x y
    have hcell : ∀ {a : Addr} {v : Value}, a.block ≠ g → w.cell? a = some v → (sortWorld enc w g 0 n dk os).cell? a = some v := fun hne hv => cell_same (sw_block enc w g 0 n dk os (cell_lt hv) hne) hv
    have hx : keys[x.val]? = some (kn x) := by rw [List.getElem?_eq_getElem x.isLt]; exact congrArg some (getD_at (List.getElem?_eq_getElem x.isLt)).symm
    have hy : keys[y.val]? = some (kn y) := by rw [List.getElem?_eq_getElem y.isLt]; exact congrArg some (getD_at (List.getElem?_eq_getElem y.isLt)).symm
    exact (lessK c kb koff keys.length kc x.val y.val x.isLt y.isLt hm (kn x) (kn y) _ ⟨hcell hcg hc, hcell hkg (hk _ _ hx), hcell hkg (hk _ _ hy)⟩).mono fun _ _ ⟨he, hq⟩ => ⟨he, hq.grown⟩
  have hcon := Any.slices_SortFunc Tryz.sortI enc (fun _ => rfl) (fun x y => kcmp (kn x) (kn y)) (swoK kn) 94 #[.pointer (some ⟨c, 0, none⟩)] g 0 cap d w (enters_of Tryz.func94 (by kernel_rfl) rfl) hcmp hH hg.lt (by rw [hds]; omega)
  rw [hds] at hcon
  refine hcon.mono ?_
  rintro e w' ⟨rfl, d', n, os, hp, hs, rfl⟩
  have hds' : d'.size = keys.length := by have := hp.1; rwa [hds] at this
  have hperm : (d'.toList.map Fin.val).Perm (List.range keys.length) := by
    have h1 := hp.2.2
    have e1 : d'.extract 0 keys.length = d' := Array.extract_eq_self_of_le (Nat.le_of_eq hds')
    have e2 : d.extract 0 keys.length = d := Array.extract_eq_self_of_le (Nat.le_of_eq hds)
    rw [e1, e2] at h1
    have h2 : d'.toList.Perm d.toList := by simpa using h1
    have h3 : d.toList.map Fin.val = List.range keys.length := by
      apply List.ext_getElem
      · simp [d]
      · intro i h1 h2
        simp [d]
    rw [← h3]
    exact h2.map _
  have hpl : d'.toList.map Fin.val = places keys := by
    refine plc_is (kf keys) keys.length (names_apart hN) hperm ?_
    rw [List.pairwise_map, List.pairwise_iff_getElem]
    intro i j hi hj hij
    have hj' : j < keys.length := by rw [← hds']; simpa using hj
    have h1 := hs i j (Nat.zero_le _) hij hj'
    rw [ltOf_k] at h1
    have h2 := of_decide_eq_false h1
    rw [getElem!_pos d' i (by omega), getElem!_pos d' j (by omega)] at h2
    simp only [Array.getElem_toList]
    exact h2
  refine ⟨rfl, fun i x hi => ?_, sw_grown enc w g 0 n d' os⟩
  rw [← hpl, List.getElem?_map] at hi
  have hi' : i < d'.size := by
    rcases Nat.lt_or_ge i d'.size with h | h
    · exact h
    · rw [List.getElem?_eq_none (by simpa using h)] at hi; cases hi
  have hsw : SW enc w g 0 d' (sortWorld enc w g 0 n d' os) := ⟨n, os, rfl⟩
  have h1 := (hsw.holds hg.lt hH (by rw [hds', hds]) i hi').1
  rw [Nat.zero_add] at h1
  rw [h1]
  have h2 : d'.toList[i]? = some d'[i]! := by rw [getElem!_pos d' i hi']; simp [hi']
  rw [h2] at hi
  simp only [Option.map_some, Option.some.injEq] at hi
  show some (Value.int .i64 ((d'[i]!).val : Int)) = _
  rw [hi]

/-- .. at none. -/
theorem ins_none (s f : Value) (w : World) : Calls Tryz.prog 148 #[s, .int .i64 0, .int .i64 0, f] w fun e w' => e = .returned (.tuple #[]) ∧ w' = w := by
  go_enter Tryz.func148, Tryz.ntmps148
  go_wp2
  refine wp_loop_rounds 2 ?_
  rw [rounds_succ]
  go_wp2
  go_end0
  exact ⟨rfl, rfl⟩
theorem pdq_none (s f : Value) (k : Int) (w : World) : Calls Tryz.prog 131 #[s, .int .i64 0, .int .i64 0, .int .i64 k, f] w fun e w' => e = .returned (.tuple #[]) ∧ w' = w := by
  go_enter Tryz.func131, Tryz.ntmps131
  go_wp2
  refine wp_loop_rounds 2 ?_
  rw [rounds_succ]
  go_wp2_with (go_at_call 148; ((with_reducible refine (ins_none _ _ _).mono ?_); rintro e w1 ⟨rfl, rfl⟩))
  exact bodyPost_ret (results_none rfl _ _ _) rfl ⟨rfl, rfl⟩
theorem sort_none (p : Option Addr) (cap : Nat) (f : Value) (w : World) : Calls Tryz.prog 93 #[.slice p 0 cap, f] w fun e w' => e = .returned (.tuple #[]) ∧ w' = w := by
  go_enter Tryz.func93, Tryz.ntmps93
  go_wp2_with (first | (go_at_call 132; ((refine (Tryz.bits_Len _ _ (by decide) (by decide)).mono ?_); rintro e w1 ⟨rfl, rfl⟩)) | (go_at_call 131; ((with_reducible refine (pdq_none _ _ _ _).mono ?_); rintro e w1 ⟨rfl, rfl⟩)))
  go_end0
  exact ⟨rfl, rfl⟩
set_option maxRecDepth 100000 in
set_option maxHeartbeats 4000000 in
/-- written: the places of names that rise. -/
theorem written_any (ka : Option Addr) (kc : Nat) (keys : List ByteArray) (kb koff : Nat) (w : World) (hK : KeysL w ka keys kb koff) (hm : keys.length ≤ 1000) (hN : namesB keys = true) :
    Calls Tryz.prog 59 #[.slice ka keys.length kc] w fun e w' => e = .returned (.slice (some ⟨w.heap.size + 1, 0, none⟩) keys.length keys.length) ∧ IntsI w' (w.heap.size + 1) (places keys) ∧ Below w.heap.size w w' := by
  have HK := Lib.hid hK; have HN := Lib.hid hN
  obtain ⟨m, hmm⟩ : ∃ m, keys.length = m := ⟨_, rfl⟩
  have HM := Lib.hid hmm
  rw [hmm] at hm ⊢
  clear hK hN hmm
  have hmk := make_i64 m (by omega) (m : Int) rfl
  obtain ⟨M, hM⟩ : ∃ M, M = (I64s (List.replicate m 0)).toArray := ⟨_, rfl⟩
  rw [← hM] at hmk
  have HMM := Lib.hid hM; clear hM
  have HC := Lib.hid (heap_alloc_new w (.cells #[.slice ka m kc] 31))
  go_enter Tryz.func59, Tryz.ntmps59
  go_wp2
  go_loopw [4, 10] (fun iv kv wr => ∃ k : Nat, k ≤ m ∧ kv = .int .i64 k ∧ Hid (Ik wr (w.heap.size + 1) (List.range k ++ List.replicate (m - k) 0)) ∧ Hid (wr.heap[w.heap.size]? = some (.cells #[.slice ka m kc] 31 (0, 0))) ∧ Hid (Below w.heap.size w wr)) (fun _ kv _ => m - (intOf kv).toNat)
  case atStart =>
    refine ⟨0, Nat.zero_le _, rfl, ?_, ?_, bal (bal (Below.refl _ _) _) _⟩
    · show Ik _ _ _
      rw [HMM.out]
      have := Ik.new (w.alloc (.cells #[.slice ka m kc] 31)) (List.replicate m 0)
      simpa using this
    · show _ = _
      exact (Below.heap_alloc _ _ _ (by simp)).trans HC.out
  case round =>
    obtain ⟨k, hk, rfl, HI, HB, BW⟩ := hrel
    have hws := BW.out.size
    rename World => wr
    by_cases hlt : k < m
    · have hkl : (k : Int) < (m : Int) := by omega
      have hx : (List.range k ++ List.replicate (m - k) 0)[k]? = some 0 := by
        rw [List.getElem?_append_right (by simp), List.length_range, Nat.sub_self, List.getElem?_replicate, if_pos (by omega)]
      have q1 := HI.out.at hx
      have q2 := HI.out.free k
      have HI2 := Lib.hid (HI.out.set k k)
      rw [set_range m k hlt] at HI2
      have HB2 : Hid ((wr.setCell ⟨w.heap.size + 1, k, none⟩ (.int .i64 (k : Int))).heap[w.heap.size]? = some (.cells #[.slice ka m kc] 31 (0, 0))) := by
        show _ = _
        exact (Below.heap_setCell wr ⟨w.heap.size + 1, k, none⟩ _ w.heap.size (by simp)).trans HB.out
      have BW2 : Hid (Below w.heap.size w (wr.setCell ⟨w.heap.size + 1, k, none⟩ (.int .i64 (k : Int)))) := bsc BW.out (by show w.heap.size ≤ w.heap.size + 1; omega) _
      clear HI HB BW hx
      go_wp2
      go_roundw
      case rel => exact ⟨k + 1, by omega, by go_num, HI2, HB2, BW2⟩
      case measure => simp [intOf]; omega
    · have hkm : k = m := by omega
      subst hkm
      have hge : ¬ (k : Int) < (k : Int) := by omega
      have HI2 := HI
      rw [Nat.sub_self, List.replicate_zero, List.append_nil] at HI2
      have hcell := cell_of_row wr w.heap.size 0 _ _ _ HB.out
      by_cases h0 : k = 0
      · subst h0
        go_wp2_with (go_at_call 93; ((with_reducible refine (sort_none _ _ _ _).mono ?_); rintro e w1 ⟨rfl, rfl⟩))
        go_ret
        refine ⟨rfl, fun i x hi => ?_, BW.out⟩
        unfold places at hi
        rw [HM.out] at hi
        simp [plc] at hi
      · have hka := HK.out.ka (by rw [HM.out]; omega)
        have KS : Hid (Calls Tryz.prog 93 #[.slice (some ⟨w.heap.size + 1, 0, none⟩) k k, .func (.func 94) #[] #[.pointer (some ⟨w.heap.size, 0, none⟩)]] wr fun e w' => e = .returned (.tuple #[]) ∧ IntsI w' (w.heap.size + 1) (places keys) ∧ wr.grownBy w' (some (w.heap.size + 1))) := by
          subst hka
          have hkk := HM.out
          subst hkk
          exact sort_some keys (by omega) (by omega) HN.out _ _ _ kb koff kc wr HI2.out hcell (fun i s hi => cell_keep BW.out (HK.out.cells i s hi)) (by omega) (fun e => by
            have hs : keys[0]? = some keys[0] := List.getElem?_eq_getElem (by omega)
            have h3 := cell_lt (HK.out.cells 0 _ hs)
            have h4 : kb < w.heap.size := h3
            omega)
        go_wp2_with (go_at_call 93; ((with_reducible refine (KS.out).mono ?_); rintro e w1 ⟨rfl, hI, hG⟩))
        go_ret
        refine ⟨rfl, hI, ?_⟩
        exact ⟨hG.os.trans BW.out.os, hG.tape.trans BW.out.tape, hG.output.trans BW.out.output, Nat.le_trans BW.out.size hG.size, fun j hj => (hG.block j (Nat.lt_of_lt_of_le hj BW.out.size) (fun e => by have := Option.some.inj e; omega)).trans (BW.out.block j hj)⟩
end Go.Proofs.YtfaaagmjmljhiaaGreatDoor
end
section
namespace Go.Proofs.YtfaaagmjmljhiaaGreatDoor
open Go.RowKit Go.Shelf
set_option linter.unusedVariables false

section
variable (g : Bool) (x0 x1 x2 x3 : Int) (la : Option Addr) (n lc : Nat) (ka : Option Addr) (m kc : Nat) (v : Value) (l : List UInt8) (base : Nat) (w : World)
set_option maxRecDepth 100000 in
theorem aval_null (bi : Int) (s : ByteArray) (hbase : base ≤ w.heap.size) (h : Bo w base v l) (hl : l.length ≤ 900000) :
    Calls Tryz.prog 18 #[v, V10 1 g x0 x1 x2 x3 bi s la n lc ka m kc] w fun e w' => ∃ v', e = .returned v' ∧ Bo w' base v' (l ++ hds 7 22) ∧ Onto w w' v v' := by
  have KA : Hid (∀ W, Below w.heap.size w W → Calls Tryz.prog 28 #[v, .int .i64 7, .int .u64 22] W fun e w' => ∃ v', e = .returned v' ∧ Bo w' base v' (l ++ hds 7 22) ∧ Onto W w' v v') :=
    fun W hw => ashort_any 7 22 (by decide) (by decide) v l base W (Nat.le_trans hbase hw.size) (Bo.keep h hw) (by omega)
  have B0 := Lib.hid (bal (Below.refl _ w) (.cells #[.int .i64 1, .bool g, .int .u64 x0, .int .u64 x1, .int .u64 x2, .int .u64 x3, .int .u64 bi, .string s, .slice la n lc, .slice ka m kc] 33))
  go_enter Tryz.func18, Tryz.ntmps18
  go_wp2_with (go_at_call 28; ((with_reducible refine (KA.out _ B0.out).mono ?_); rintro e w2 ⟨v2, rfl, B2, O2⟩))
  go_ret
  exact ⟨_, rfl, B2, (Onto.of B0.out v).trans O2⟩
set_option maxRecDepth 100000 in
theorem aval_bool (b : Int) (h0 : 0 ≤ b) (h1 : b ≤ 1) (s : ByteArray) (hbase : base ≤ w.heap.size) (h : Bo w base v l) (hl : l.length ≤ 900000) :
    Calls Tryz.prog 18 #[v, V10 2 g x0 x1 x2 x3 b s la n lc ka m kc] w fun e w' => ∃ v', e = .returned v' ∧ Bo w' base v' (l ++ hds 7 (20 + b.toNat)) ∧ Onto w w' v v' := by
  have KA : Hid (∀ W, Below w.heap.size w W → Calls Tryz.prog 28 #[v, .int .i64 7, .int .u64 (20 + b)] W fun e w' => ∃ v', e = .returned v' ∧ Bo w' base v' (l ++ hds 7 (20 + b.toNat)) ∧ Onto W w' v v') :=
    fun W hw => by
      have k := ashort_any 7 (20 + b.toNat) (by decide) (by omega) v l base W (Nat.le_trans hbase hw.size) (Bo.keep h hw) (by omega)
      have e : ((20 + b.toNat : Nat) : Int) = 20 + b := by omega
      rw [e] at k
      exact k
  have B0 := Lib.hid (bal (Below.refl _ w) (.cells #[.int .i64 2, .bool g, .int .u64 x0, .int .u64 x1, .int .u64 x2, .int .u64 x3, .int .u64 b, .string s, .slice la n lc, .slice ka m kc] 33))
  go_enter Tryz.func18, Tryz.ntmps18
  go_wp2_with (go_at_call 28; ((with_reducible refine (KA.out _ B0.out).mono ?_); rintro e w2 ⟨v2, rfl, B2, O2⟩))
  go_ret
  exact ⟨_, rfl, B2, (Onto.of B0.out v).trans O2⟩
set_option maxRecDepth 100000 in
theorem aval_text (bi : Int) (s : ByteArray) (hs : s.size ≤ 1000000) (hbase : base ≤ w.heap.size) (h : Bo w base v l) (hl : l.length ≤ 900000) :
    Calls Tryz.prog 18 #[v, V10 5 g x0 x1 x2 x3 bi s la n lc ka m kc] w fun e w' => ∃ v', e = .returned v' ∧ Bo w' base v' (l ++ (hds 3 s.size ++ s.data.toList)) ∧ Onto w w' v v' := by
  have KA : Hid (∀ W, Below w.heap.size w W → Calls Tryz.prog 31 #[v, .int .i64 3, .string s] W fun e w' => ∃ v', e = .returned v' ∧ Bo w' base v' (l ++ (hds 3 s.size ++ s.data.toList)) ∧ Onto W w' v v') :=
    fun W hw => atext_any 3 (by decide) s hs v l base W (Nat.le_trans hbase hw.size) (Bo.keep h hw) (by omega)
  have B0 := Lib.hid (bal (Below.refl _ w) (.cells #[.int .i64 5, .bool g, .int .u64 x0, .int .u64 x1, .int .u64 x2, .int .u64 x3, .int .u64 bi, .string s, .slice la n lc, .slice ka m kc] 33))
  go_enter Tryz.func18, Tryz.ntmps18
  go_wp2_with (go_at_call 31; ((with_reducible refine (KA.out _ B0.out).mono ?_); rintro e w2 ⟨v2, rfl, B2, O2⟩))
  go_ret
  exact ⟨_, rfl, B2, (Onto.of B0.out v).trans O2⟩
set_option maxRecDepth 100000 in
theorem aval_bytes (bi : Int) (s : ByteArray) (hs : s.size ≤ 1000000) (hbase : base ≤ w.heap.size) (h : Bo w base v l) (hl : l.length ≤ 900000) :
    Calls Tryz.prog 18 #[v, V10 6 g x0 x1 x2 x3 bi s la n lc ka m kc] w fun e w' => ∃ v', e = .returned v' ∧ Bo w' base v' (l ++ (hds 2 s.size ++ s.data.toList)) ∧ Onto w w' v v' := by
  have KA : Hid (∀ W, Below w.heap.size w W → Calls Tryz.prog 31 #[v, .int .i64 2, .string s] W fun e w' => ∃ v', e = .returned v' ∧ Bo w' base v' (l ++ (hds 2 s.size ++ s.data.toList)) ∧ Onto W w' v v') :=
    fun W hw => atext_any 2 (by decide) s hs v l base W (Nat.le_trans hbase hw.size) (Bo.keep h hw) (by omega)
  have B0 := Lib.hid (bal (Below.refl _ w) (.cells #[.int .i64 6, .bool g, .int .u64 x0, .int .u64 x1, .int .u64 x2, .int .u64 x3, .int .u64 bi, .string s, .slice la n lc, .slice ka m kc] 33))
  go_enter Tryz.func18, Tryz.ntmps18
  go_wp2_with (go_at_call 31; ((with_reducible refine (KA.out _ B0.out).mono ?_); rintro e w2 ⟨v2, rfl, B2, O2⟩))
  go_ret
  exact ⟨_, rfl, B2, (Onto.of B0.out v).trans O2⟩
end

theorem Lim.pos {r f s : List UInt8} {M : Nat} (h : Lim r f s M) (hr : 0 < r.length) : 0 < s.length := by
  rcases Nat.lt_or_ge 65536 (r.length + f.length) with h1 | h1
  · have := h.2.1 h1; omega
  · rw [h.1 h1, List.length_append]; omega
theorem below_le {M N : Nat} {w w' : World} (h : Below N w w') (hM : M ≤ N) : Below M w w' := ⟨h.os, h.tape, h.output, h.size, fun k hk => h.block k (Nat.lt_of_lt_of_le hk hM)⟩
theorem below_seq {N : Nat} {a b c : World} (h : Below N a b) (k : Below N b c) : Below N a c := ⟨k.os.trans h.os, k.tape.trans h.tape, k.output.trans h.output, Nat.le_trans h.size k.size, fun j hj => (k.block j hj).trans (h.block j hj)⟩
theorem Onto.cell {w w' : World} {v v' : Value} (h : Onto w w' v v') {a : Addr} {x : Value} (hc : w.cell? a = some x) (hne : some a.block ≠ v.ownBlock) : w'.cell? a = some x := cell_same (h.grown.block a.block (cell_lt hc) hne) hc
/-- A value that lay in memory ahead of it all is appended to a row of bytes. -/
def AVs (t : VT) (W0 : World) : Prop := ∀ w, Below W0.heap.size W0 w → ∀ (base : Nat) (v : Value) (l : List UInt8), W0.heap.size ≤ base → base ≤ w.heap.size → Bo w base v l → l.length + 5000 * t.depth ≤ 200000 →
  Calls Tryz.prog 18 #[v, t.val] w fun e w' => ∃ v' r, e = .returned v' ∧ Bo w' base v' r ∧ Onto w w' v v' ∧ Lim l (encT t) r (5000 * t.depth)
set_option maxRecDepth 100000 in
set_option maxHeartbeats 4000000 in
theorem aarr_any (la : Option Addr) (lc : Nat) (kids : List VT) (bb off D : Nat) (W0 : World) (hK : Kids W0 la kids bb off) (hD : ∀ t ∈ kids, t.depth ≤ D) (hD16 : D ≤ 16) (hn : kids.length ≤ 1000) (av : ∀ t ∈ kids, AVs t W0)
    (w : World) (hw : Below W0.heap.size W0 w) (base : Nat) (v : Value) (l : List UInt8) (hb0 : W0.heap.size ≤ base) (hbase : base ≤ w.heap.size) (h : Bo w base v l) (hl : l.length + 5000 * (D + 1) ≤ 200000) :
    Calls Tryz.prog 32 #[v, .slice la kids.length lc] w fun e w' => ∃ v' r, e = .returned v' ∧ Bo w' base v' r ∧ Onto w w' v v' ∧ Lim l (hds 4 kids.length ++ (kids.map encT).flatten) r (5000 * (D + 1)) := by
  have HK := Lib.hid hK; have HD := Lib.hid hD; have HAV := Lib.hid av; have HW := Lib.hid hw
  have KA := Lib.hid (show Calls Tryz.prog 28 #[v, .int .i64 4, .int .u64 (kids.length : Nat)] w fun e w' => ∃ v', e = .returned v' ∧ Bo w' base v' (l ++ hds 4 kids.length) ∧ Onto w w' v v' from ashort_any 4 kids.length (by decide) (by omega) v l base w hbase h (by omega))
  have HB0 := Lib.hid h
  have HH := Lib.hid (hds_len 4 kids.length); have HP := Lib.hid (hds_pos 4 kids.length)
  obtain ⟨F, hF⟩ : ∃ F, hds 4 kids.length = F := ⟨_, rfl⟩
  rw [hF] at KA HH HP ⊢
  clear hF
  obtain ⟨E, hE⟩ : ∃ E, kids.map encT = E := ⟨_, rfl⟩
  have HE : Hid (∀ (k : Nat) (t : VT), kids[k]? = some t → E[k]? = some (encT t)) := fun k t ht => by rw [← hE, List.getElem?_map, ht]; rfl
  have HEL : Hid (E.length = kids.length) := by show _ = _; rw [← hE, List.length_map]
  rw [hE]
  obtain ⟨M, hM⟩ : ∃ M, 5000 * (D + 1) = M := ⟨_, rfl⟩
  have HM := Lib.hid hM
  rw [hM]
  have HL := Lib.hid hl
  clear hK hD av hw h hE hM hl
  go_enter Tryz.func32, Tryz.ntmps32
  go_wp2_with (go_at_call 28; ((with_reducible refine (KA.out).mono ?_); rintro e w1 ⟨v1, rfl, B1, O1⟩; have HB1 := Lib.hid B1; have HO1 := Lib.hid O1; clear B1 O1))
  go_loopw [0, 6, 14] (fun bv ev iv wr => ∃ (k : Nat) (r : List UInt8), k ≤ kids.length ∧ iv = .int .i64 k ∧ Hid (Bo wr base bv r) ∧ Hid (Onto w wr v bv) ∧ Hid (Lim l (F ++ (E.take k).flatten) r M) ∧ Hid (0 < r.length)) (fun _ _ i _ => kids.length - (intOf i).toNat)
  case atStart => exact ⟨0, l ++ F, Nat.zero_le _, rfl, HB1, HO1, (by show Lim _ _ _ _; rw [List.take_zero, List.flatten_nil, List.append_nil]; exact Lim.leaf (by have := HH.out; have := HM.out; omega)), (by show 0 < _; rw [List.length_append]; have := HP.out; omega)⟩
  case round =>
    obtain ⟨k, r, hk, rfl, HB, HO, HLm, HR0⟩ := hrel
    clear HB1 HO1
    rename World => wr
    obtain ⟨gg, cap, rfl, _⟩ := HB.out.some HR0.out
    have hws := HO.out.size
    have HBW : Hid (Below W0.heap.size W0 wr) := below_seq HW.out (below_le (HO.out.frame hbase HB0.out) hb0)
    obtain ⟨N, hN⟩ : ∃ N, r.length = N := ⟨_, rfl⟩
    have HN := Lib.hid hN
    rw [hN] at HB HO
    rw [hN]
    clear hN
    by_cases hlt : k < kids.length
    · obtain ⟨t, ht, hm⟩ := kid_at hlt
      have hr := (HK.out.cells k t ht).keep HBW.out
      obtain rfl : la = some ⟨bb, off, none⟩ := HK.out.la (by omega)
      have HKT := Lib.hid ht; have HMT := Lib.hid hm
      have KV := Lib.hid (HAV.out t hm)
      obtain ⟨dt, hdt⟩ : ∃ dt, 5000 * t.depth = dt := ⟨_, rfl⟩
      have HDT : Hid (dt + 5000 ≤ M) := Lib.hid (by have := HD.out t hm; have := HM.out; omega)
      unfold AVs at KV
      rw [hdt] at KV
      obtain ⟨Et, hEt⟩ : ∃ Et, encT t = Et := ⟨_, rfl⟩
      have HEt : Hid (E[k]? = some Et) := by show _ = _; rw [← hEt]; exact HE.out k t ht
      rw [hEt] at KV
      obtain ⟨o2, l2⟩ := t
      obtain ⟨kd2, g2, x2', b2, s2, la2, lc2, ka2, kc2, ks2⟩ := o2
      simp only [VT.val, VT.cells, VT.o_mk, VT.kids_mk] at KV
      obtain ⟨c0, c1, c2, c3, c4, c5, c6, c7, c8, c9⟩ := hr.ten
      clear hr ht hm hEt hdt HKT HMT
      have hlt2 : (k : Int) < (kids.length : Int) := by omega
      by_cases hbig : 65536 < N
      · have hbig2 : (65536 : Int) < (N : Int) := by omega
        go_wp2
        go_ret
        refine ⟨_, r, rfl, Bo.alloc HB.out _, HO.out.below (bal (Below.refl _ _) _), ?_⟩
        rw [flat_rest E k, ← List.append_assoc]
        exact HLm.out.stop (by rw [HN.out]; exact hbig) _
      · have hbig2 : ¬ (65536 : Int) < (N : Int) := by omega
        have HS : Hid (r.length + dt ≤ 200000) := Lib.hid (by have := HN.out; have := HDT.out; have := HM.out; omega)
        go_wp2_with (go_at_call 18; ((with_reducible refine (KV.out _ (bal HBW.out _) base _ r hb0 (by simp; omega) (Bo.alloc HB.out _) HS.out).mono ?_); rintro e w3 ⟨v3, r3, rfl, B3, O3, L3⟩))
        go_roundw
        case rel => exact ⟨k + 1, r3, by omega, by go_num, B3, (HO.out.below (bal (Below.refl _ _) _)).trans O3, (by show Lim _ _ _ _; rw [flat_next HEt.out, ← List.append_assoc]; exact HLm.out.next (by rw [HN.out]; omega) L3 (by have := HDT.out; omega)), L3.pos HR0.out⟩
        case measure => simp [intOf]; omega
    · have hge : ¬ (k : Int) < (kids.length : Int) := by omega
      have hkk : k = kids.length := by omega
      go_wp2
      go_ret
      refine ⟨_, rfl, r, HB.out, HO.out, ?_⟩
      have := HLm.out
      rw [List.take_of_length_le (by rw [HEL.out]; omega)] at this
      exact this
end Go.Proofs.YtfaaagmjmljhiaaGreatDoor
end
section
namespace Go.Proofs.YtfaaagmjmljhiaaGreatDoor
open Go.RowKit Go.Shelf
set_option linter.unusedVariables false

/-- What a round of appendMap reads: the value's names and list, a name, a value's ten cells. -/
def Rm (w : World) (c : Nat) (L K : Value) (kb ki : Nat) (key : ByteArray) (bb p : Nat) (v0 v1 v2 v3 v4 v5 v6 v7 v8 v9 : Value) : Prop :=
  w.cell? ⟨c, 8, none⟩ = some L ∧ w.cell? ⟨c, 9, none⟩ = some K ∧ w.cell? ⟨kb, ki, none⟩ = some (.string key) ∧ w.cell? ⟨bb, p, none⟩ = some v0 ∧ w.cell? ⟨bb, p + 1, none⟩ = some v1 ∧ w.cell? ⟨bb, p + 2, none⟩ = some v2 ∧ w.cell? ⟨bb, p + 3, none⟩ = some v3 ∧ w.cell? ⟨bb, p + 4, none⟩ = some v4 ∧ w.cell? ⟨bb, p + 5, none⟩ = some v5 ∧ w.cell? ⟨bb, p + 6, none⟩ = some v6 ∧ w.cell? ⟨bb, p + 7, none⟩ = some v7 ∧ w.cell? ⟨bb, p + 8, none⟩ = some v8 ∧ w.cell? ⟨bb, p + 9, none⟩ = some v9
section
variable {w w' : World} {c : Nat} {L K : Value} {kb ki : Nat} {key : ByteArray} {bb p : Nat} {v0 v1 v2 v3 v4 v5 v6 v7 v8 v9 : Value}
theorem Rm.keep (hb : Below w.heap.size w w') (h : Rm w c L K kb ki key bb p v0 v1 v2 v3 v4 v5 v6 v7 v8 v9) : Rm w' c L K kb ki key bb p v0 v1 v2 v3 v4 v5 v6 v7 v8 v9 := by
  obtain ⟨a1, a2, a3, b0, b1, b2, b3, b4, b5, b6, b7, b8, b9⟩ := h
  exact ⟨cell_keep hb a1, cell_keep hb a2, cell_keep hb a3, cell_keep hb b0, cell_keep hb b1, cell_keep hb b2, cell_keep hb b3, cell_keep hb b4, cell_keep hb b5, cell_keep hb b6, cell_keep hb b7, cell_keep hb b8, cell_keep hb b9⟩
theorem Rm.alloc (h : Rm w c L K kb ki key bb p v0 v1 v2 v3 v4 v5 v6 v7 v8 v9) (o : Obj) : Rm (w.alloc o) c L K kb ki key bb p v0 v1 v2 v3 v4 v5 v6 v7 v8 v9 := h.keep (bal (Below.refl _ _) o)
theorem Rm.drew (h : Rm w c L K kb ki key bb p v0 v1 v2 v3 v4 v5 v6 v7 v8 v9) : Rm w.drew c L K kb ki key bb p v0 v1 v2 v3 v4 v5 v6 v7 v8 v9 := h
theorem Rm.drewN (h : Rm w c L K kb ki key bb p v0 v1 v2 v3 v4 v5 v6 v7 v8 v9) (n : Nat) : Rm (w.drewN n) c L K kb ki key bb p v0 v1 v2 v3 v4 v5 v6 v7 v8 v9 := h
theorem Rm.onto {v v' : Value} (ho : Onto w w' v v') (hc : some c ≠ v.ownBlock) (hk : some kb ≠ v.ownBlock) (hb : some bb ≠ v.ownBlock) (h : Rm w c L K kb ki key bb p v0 v1 v2 v3 v4 v5 v6 v7 v8 v9) : Rm w' c L K kb ki key bb p v0 v1 v2 v3 v4 v5 v6 v7 v8 v9 := by
  obtain ⟨a1, a2, a3, b0, b1, b2, b3, b4, b5, b6, b7, b8, b9⟩ := h
  exact ⟨ho.cell a1 hc, ho.cell a2 hc, ho.cell a3 hk, ho.cell b0 hb, ho.cell b1 hb, ho.cell b2 hb, ho.cell b3 hb, ho.cell b4 hb, ho.cell b5 hb, ho.cell b6 hb, ho.cell b7 hb, ho.cell b8 hb, ho.cell b9 hb⟩
end
/-- A block that the row's block is not, and that was there: it is none of the rows that follow. -/
theorem Onto.apart {w w' : World} {v v' : Value} (h : Onto w w' v v') {c : Nat} (hc : c < w.heap.size) (hne : some c ≠ v.ownBlock) : some c ≠ v'.ownBlock := by
  rcases h.lies with e | ⟨g, e, hg⟩
  · rw [e]; exact hne
  · rw [e]; intro he; have := Option.some.inj he; omega
theorem own_below {W : World} {base : Nat} {v : Value} {l : List UInt8} (h : Bo W base v l) {c : Nat} (hc : c < base) : some c ≠ v.ownBlock := by
  intro e
  have := (World.ownsRow.lt h c e.symm).1
  omega
set_option maxRecDepth 100000 in
set_option maxHeartbeats 8000000 in
theorem amap_any (g : Bool) (x0 x1 x2 x3 bi : Int) (s : ByteArray) (la : Option Addr) (lc : Nat) (ka : Option Addr) (kc : Nat) (keys : List ByteArray) (kb koff : Nat) (kids : List VT) (bb off D : Nat) (W0 : World) (hKK : KeysL W0 ka keys kb koff) (hK : Kids W0 la kids bb off)
    (hN : namesB keys = true) (hkz : ∀ s ∈ keys, s.size ≤ 4096) (hlen : keys.length = kids.length) (hD : ∀ t ∈ kids, t.depth ≤ D) (hD16 : D ≤ 16) (hn : kids.length ≤ 1000) (av : ∀ t ∈ kids, AVs t W0)
    (w : World) (hw : Below W0.heap.size W0 w) (base : Nat) (v : Value) (l : List UInt8) (hb0 : W0.heap.size ≤ base) (hbase : base ≤ w.heap.size) (h : Bo w base v l) (hl : l.length + 5000 * (D + 1) ≤ 200000) :
    Calls Tryz.prog 33 #[v, V10 8 g x0 x1 x2 x3 bi s la kids.length lc ka keys.length kc] w fun e w' => ∃ v' r, e = .returned v' ∧ Bo w' base v' r ∧ Onto w w' v v' ∧ Lim l (hds 5 keys.length ++ (places keys).flatMap (memB keys (kids.map encT))) r (5000 * (D + 1)) := by
  have HKK := Lib.hid hKK; have HK := Lib.hid hK; have HN := Lib.hid hN; have HKZ := Lib.hid hkz; have HD := Lib.hid hD; have HAV := Lib.hid av; have HW := Lib.hid hw
  have HB0 := Lib.hid h
  have hmn : keys.length ≤ 1000 := by omega
  obtain ⟨m, hm⟩ : ∃ m, keys.length = m := ⟨_, rfl⟩
  have HMM := Lib.hid hm
  have HMN := Lib.hid hlen
  have KA := Lib.hid (fun W (hW : Below w.heap.size w W) => show Calls Tryz.prog 28 #[v, .int .i64 5, .int .u64 (keys.length : Nat)] W fun e w' => ∃ v', e = .returned v' ∧ Bo w' base v' (l ++ hds 5 keys.length) ∧ Onto W w' v v' from ashort_any 5 keys.length (by decide) (by omega) v l base W (Nat.le_trans hbase hW.size) (Bo.keep h hW) (by omega))
  have HH := Lib.hid (hds_len 5 keys.length); have HP := Lib.hid (hds_pos 5 keys.length)
  obtain ⟨F, hF⟩ : ∃ F, hds 5 keys.length = F := ⟨_, rfl⟩
  rw [hF] at KA HH HP ⊢
  clear hF
  obtain ⟨E, hE⟩ : ∃ E, memB keys (kids.map encT) = E := ⟨_, rfl⟩
  have HE : Hid (∀ (k : Nat) (t : VT) (key : ByteArray), kids[k]? = some t → keys[k]? = some key → E k = (hds 3 key.size ++ key.data.toList) ++ encT t) := fun k t key ht hk => by
    rw [← hE]
    unfold memB
    rw [getD_at hk, List.getD_eq_getElem?_getD, List.getElem?_map, ht]
    rfl
  rw [hE]
  obtain ⟨P, hP⟩ : ∃ P, places keys = P := ⟨_, rfl⟩
  have HPL : Hid (P.length = m) := Lib.hid (by rw [← hP]; unfold places; rw [plc_len]; exact hm)
  have HPP : Hid (∀ x ∈ P, x < m) := fun x hx => by rw [← hP] at hx; unfold places at hx; rw [← hm]; exact plc_lt hx
  have HPK := Lib.hid hP
  rw [hP]
  obtain ⟨M, hM⟩ : ∃ M, 5000 * (D + 1) = M := ⟨_, rfl⟩
  have HM := Lib.hid hM
  have HL := Lib.hid hl
  rw [hM]
  rw [hm] at KA hmn ⊢
  have hlen2 : kids.length = m := by omega
  rw [hlen2] at hn ⊢
  have R0 := Lib.hid (Row10.new w (.int .i64 8) (.bool g) (.int .u64 x0) (.int .u64 x1) (.int .u64 x2) (.int .u64 x3) (.int .u64 bi) (.string s) (.slice la m lc) (.slice ka m kc))
  have B0 := Lib.hid (bal (Below.refl _ w) (.cells #[.int .i64 8, .bool g, .int .u64 x0, .int .u64 x1, .int .u64 x2, .int .u64 x3, .int .u64 bi, .string s, .slice la m lc, .slice ka m kc] 33))
  obtain ⟨p0, p1, p2, p3, p4, p5, p6, p7, p8, p9⟩ := R0.out.parts
  clear hKK hK hN hkz hD av hw h hE hM hl hP hm hlen hlen2
  go_enter Tryz.func33, Tryz.ntmps33
  go_wp2_with fail
  ((with_reducible refine (KA.out _ B0.out).mono ?_); rintro e w1 ⟨v1, rfl, hB1, hO1⟩)
  have HB1 := Lib.hid hB1
  have HO1 := Lib.hid hO1
  have hv0 : some w.heap.size ≠ v.ownBlock := Bo.apart HB0.out (Nat.le_refl _)
  have h1s := hO1.size
  have hsz0 : (w.alloc (.cells #[.int .i64 8, .bool g, .int .u64 x0, .int .u64 x1, .int .u64 x2, .int .u64 x3, .int .u64 bi, .string s, .slice la m lc, .slice ka m kc] 33)).heap.size = w.heap.size + 1 := by simp
  have HA1 : Hid (some w.heap.size ≠ v1.ownBlock) := Lib.hid (hO1.apart (by omega) hv0)
  have q8 := hO1.cell p8 hv0
  have q9 := hO1.cell p9 hv0
  have HOv : Hid (Onto w w1 v v1) := Lib.hid ((Onto.of B0.out v).trans hO1)
  have HBW1 : Hid (Below W0.heap.size W0 w1) := Lib.hid (below_seq HW.out (below_le (HOv.out.frame hbase HB0.out) hb0))
  have hw1s : w.heap.size + 1 ≤ w1.heap.size := by rw [← hsz0]; exact h1s
  have KW : Hid (Calls Tryz.prog 59 #[.slice ka m kc] w1 fun e w' => e = .returned (.slice (some ⟨w1.heap.size + 1, 0, none⟩) m m) ∧ IntsI w' (w1.heap.size + 1) P ∧ Below w1.heap.size w1 w') := by
    have := written_any ka kc keys kb koff w1 (HKK.out.keep HBW1.out) (by rw [HMM.out]; exact hmn) HN.out
    rw [HMM.out, HPK.out] at this
    exact this
  clear p0 p1 p2 p3 p4 p5 p6 p7 p8 p9 hB1 hO1 h1s R0 KA
  go_wp2_with fail
  ((with_reducible refine (KW.out).mono ?_); rintro e w2 ⟨rfl, hI2, hb2⟩)
  have HB2 := Lib.hid (Bo.keep HB1.out hb2)
  have HI2 := Lib.hid hI2
  have HOv2 : Hid (Onto w w2 v v1) := Lib.hid (HOv.out.below hb2)
  have HG : Hid (some (w1.heap.size + 1) ≠ v1.ownBlock) := Lib.hid (Bo.apart HB1.out (by omega))
  have HGl : Hid (m = 0 ∨ w1.heap.size + 1 < w2.heap.size) := by
    rcases Nat.eq_zero_or_pos m with h0 | h0
    · exact Or.inl h0
    · have h1 := HPL.out
      have h2 : P[0]? = some P[0] := List.getElem?_eq_getElem (by omega)
      exact Or.inr (cell_lt (HI2.out 0 _ h2))
  have r8 := Lib.hid (cell_keep hb2 q8)
  have r9 := Lib.hid (cell_keep hb2 q9)
  have hw2s := hb2.size
  obtain ⟨G, hG⟩ : ∃ G, w1.heap.size + 1 = G := ⟨_, rfl⟩
  rw [hG] at HI2 HG HGl ⊢
  clear hI2 hb2 q8 q9 KW HBW1 HOv
  have hC2 := r8.out
  clear hC2
  go_wp2
  go_loopw [0, 6, 17] (fun bv _ kv wr => ∃ (k : Nat) (r : List UInt8), k ≤ m ∧ kv = .int .i64 k ∧ Hid (Bo wr base bv r) ∧ Hid (Onto w2 wr v1 bv) ∧ Hid (Lim l (F ++ (P.take k).flatMap E) r M) ∧ Hid (0 < r.length)) (fun _ _ i _ => m - (intOf i).toNat)
  case atStart => exact ⟨0, l ++ F, Nat.zero_le _, rfl, HB2, Onto.refl _ _, (by show Lim _ _ _ _; rw [List.take_zero, List.flatMap_nil, List.append_nil]; exact Lim.leaf (by have := HH.out; have := HM.out; omega)), (by show 0 < _; rw [List.length_append]; have := HP.out; omega)⟩
  case round =>
    obtain ⟨k, r, hk, rfl, HB, HO, HLm, HR0⟩ := hrel
    rename World => wr
    obtain ⟨gg, cap, rfl, _⟩ := HB.out.some HR0.out
    have hws := HO.out.size
    have HOw : Hid (Onto w wr v (.slice (some ⟨gg, 0, none⟩) r.length cap)) := Lib.hid (HOv2.out.trans HO.out)
    have HBW : Hid (Below W0.heap.size W0 wr) := Lib.hid (below_seq HW.out (below_le (HOw.out.frame hbase HB0.out) hb0))
    obtain ⟨N, hN⟩ : ∃ N, r.length = N := ⟨_, rfl⟩
    have HN' := Lib.hid hN
    rw [hN] at HB HO HOw
    rw [hN]
    clear hN
    by_cases hlt : k < m
    · obtain ⟨x, hPk, hxm⟩ : ∃ x, P[k]? = some x ∧ x < m := by
        have hkP : k < P.length := by rw [HPL.out]; exact hlt
        exact ⟨P[k]'hkP, List.getElem?_eq_getElem hkP, HPP.out _ (List.getElem_mem hkP)⟩
      have HPx := Lib.hid hPk
      have hxc : wr.cell? ⟨G, k, none⟩ = some (.int .i64 (x : Int)) := by
        have h1 := HO.out.cell (HI2.out k x hPk) HG.out
        exact h1
      clear hPk
      have hlt2 : (k : Int) < (m : Int) := by omega
      by_cases hbig : 65536 < N
      · have hbig2 : (65536 : Int) < (N : Int) := by omega
        go_wp2
        go_ret
        refine ⟨_, r, rfl, HB.out, HOw.out, ?_⟩
        rw [flatMap_rest P E k, ← List.append_assoc]
        exact HLm.out.stop (by rw [HN'.out]; exact hbig) _
      · have hbig2 : ¬ (65536 : Int) < (N : Int) := by omega
        obtain ⟨t, ht, hmt⟩ := kid_at (kids := kids) (k := x) (by have := HMM.out; have := HMN.out; omega)
        obtain ⟨key, hkey, hmk⟩ := key_at (keys := keys) (k := x) (by have := HMM.out; omega)
        have hr := (HK.out.cells x t ht).keep HBW.out
        obtain rfl : la = some ⟨bb, off, none⟩ := HK.out.la (by have := HMM.out; have := HMN.out; omega)
        obtain rfl : ka = some ⟨kb, koff, none⟩ := HKK.out.ka (by have := HMM.out; omega)
        have hkc := cell_keep HBW.out (HKK.out.cells x key hkey)
        have hkbl : kb < W0.heap.size := cell_lt (HKK.out.cells x key hkey)
        have hbbl : bb < W0.heap.size := cell_lt ((HK.out.cells x t ht) 0 _ rfl)
        have HEx := Lib.hid (HE.out x t key ht hkey)
        have hks := HKZ.out key hmk
        obtain ⟨kt, hkt⟩ : ∃ kt, hds 3 key.size ++ key.data.toList = kt := ⟨_, rfl⟩
        have HKL : Hid (kt.length ≤ 4105) := Lib.hid (by rw [← hkt, List.length_append]; have := hds_len 3 key.size; have : key.data.toList.length = key.size := by rw [Array.length_toList]; rfl
                                                         omega)
        have hdt := HD.out t hmt
        obtain ⟨dt, hdte⟩ : ∃ dt, 5000 * t.depth = dt := ⟨_, rfl⟩
        have HDT : Hid (dt + 5000 ≤ M) := Lib.hid (by have := HM.out; omega)
        have KV0 := HAV.out t hmt
        unfold AVs at KV0
        rw [hdte] at KV0
        obtain ⟨Et, hEt⟩ : ∃ Et, encT t = Et := ⟨_, rfl⟩
        rw [hEt] at KV0 HEx
        rw [hkt] at HEx
        have hne1 : some w.heap.size ≠ (Value.slice (some ⟨gg, 0, none⟩) N cap).ownBlock := HO.out.apart (by omega) HA1.out
        have hne2 : some kb ≠ (Value.slice (some ⟨gg, 0, none⟩) N cap).ownBlock := own_below HB.out (by omega)
        have hne3 : some bb ≠ (Value.slice (some ⟨gg, 0, none⟩) N cap).ownBlock := own_below HB.out (by omega)
        obtain ⟨o2, l2⟩ := t
        obtain ⟨kd2, g2, x2', b2, s2, la2, lc2, ka2, kc2, ks2⟩ := o2
        simp only [VT.val, VT.cells, VT.o_mk, VT.kids_mk] at KV0
        obtain ⟨c0, c1, c2, c3, c4, c5, c6, c7, c8, c9⟩ := hr.ten
        have RM0 : Rm wr w.heap.size (.slice (some ⟨bb, off, none⟩) m lc) (.slice (some ⟨kb, koff, none⟩) m kc) kb (koff + x) key bb (off + x * 10) (.int .i64 kd2) (.bool g2) (.int .u64 (lb 0 x2')) (.int .u64 (lb 1 x2')) (.int .u64 (lb 2 x2')) (.int .u64 (lb 3 x2')) (.int .u64 b2) (.string s2) (.slice la2 l2.length lc2) (.slice ka2 ks2.length kc2) := ⟨HO.out.cell r8.out HA1.out, HO.out.cell r9.out HA1.out, hkc, c0, c1, c2, c3, c4, c5, c6, c7, c8, c9⟩
        have hbw : base ≤ wr.heap.size := by omega
        have KT : Hid (∀ W, Below wr.heap.size wr W → Calls Tryz.prog 31 #[.slice (some ⟨gg, 0, none⟩) N cap, .int .i64 3, .string key] W fun e w' => ∃ v', e = .returned v' ∧ Hid (Bo w' base v' (r ++ kt) ∧ Onto wr w' (.slice (some ⟨gg, 0, none⟩) N cap) v' ∧ Below W0.heap.size W0 w' ∧ base ≤ w'.heap.size) ∧ Rm w' w.heap.size (.slice (some ⟨bb, off, none⟩) m lc) (.slice (some ⟨kb, koff, none⟩) m kc) kb (koff + x) key bb (off + x * 10) (.int .i64 kd2) (.bool g2) (.int .u64 (lb 0 x2')) (.int .u64 (lb 1 x2')) (.int .u64 (lb 2 x2')) (.int .u64 (lb 3 x2')) (.int .u64 b2) (.string s2) (.slice la2 l2.length lc2) (.slice ka2 ks2.length kc2)) := fun W hW => by
          refine (atext_any 3 (by decide) key (by omega) _ r base W (Nat.le_trans hbw hW.size) (Bo.keep HB.out hW) (by rw [HN'.out]; omega)).mono ?_
          rintro e w' ⟨v', rfl, hB3, hO3⟩
          rw [hkt] at hB3
          have hO : Onto wr w' (.slice (some ⟨gg, 0, none⟩) N cap) v' := (Onto.of hW _).trans hO3
          exact ⟨v', rfl, ⟨hB3, hO, below_seq HBW.out (below_le (hO.frame hbw HB.out) hb0), Nat.le_trans hbw hO.size⟩, Rm.onto hO hne1 hne2 hne3 RM0⟩
        have KV : Hid (∀ (v3 : Value) (w3 : World), Hid (Bo w3 base v3 (r ++ kt) ∧ Onto wr w3 (.slice (some ⟨gg, 0, none⟩) N cap) v3 ∧ Below W0.heap.size W0 w3 ∧ base ≤ w3.heap.size) → Rm w3 w.heap.size (.slice (some ⟨bb, off, none⟩) m lc) (.slice (some ⟨kb, koff, none⟩) m kc) kb (koff + x) key bb (off + x * 10) (.int .i64 kd2) (.bool g2) (.int .u64 (lb 0 x2')) (.int .u64 (lb 1 x2')) (.int .u64 (lb 2 x2')) (.int .u64 (lb 3 x2')) (.int .u64 b2) (.string s2) (.slice la2 l2.length lc2) (.slice ka2 ks2.length kc2) → ∀ W, Below w3.heap.size w3 W → Calls Tryz.prog 18 #[v3, V10 kd2 g2 (lb 0 x2') (lb 1 x2') (lb 2 x2') (lb 3 x2') b2 s2 la2 l2.length lc2 ka2 ks2.length kc2] W fun e w' => ∃ v' r', e = .returned v' ∧ Hid (Bo w' base v' r') ∧ Hid (Onto wr w' (.slice (some ⟨gg, 0, none⟩) N cap) v') ∧ Hid (Lim r (kt ++ Et) r' (M - 5)) ∧ Rm w' w.heap.size (.slice (some ⟨bb, off, none⟩) m lc) (.slice (some ⟨kb, koff, none⟩) m kc) kb (koff + x) key bb (off + x * 10) (.int .i64 kd2) (.bool g2) (.int .u64 (lb 0 x2')) (.int .u64 (lb 1 x2')) (.int .u64 (lb 2 x2')) (.int .u64 (lb 3 x2')) (.int .u64 b2) (.string s2) (.slice la2 l2.length lc2) (.slice ka2 ks2.length kc2)) := fun v3 w3 H3 R3 W hW => by
          obtain ⟨hB3, hO3, hW3, hb3⟩ := H3.out
          have n1 := hO3.apart (show w.heap.size < wr.heap.size by omega) hne1
          have n2 := own_below hB3 (show kb < base by omega)
          have n3 := own_below hB3 (show bb < base by omega)
          refine (KV0 W (below_seq hW3 (below_le hW (by have := hW3.size; omega))) base v3 (r ++ kt) hb0 (Nat.le_trans hb3 hW.size) (Bo.keep hB3 hW) (by rw [List.length_append, HN'.out]; have := HKL.out; have := HDT.out; have := HM.out; omega)).mono ?_
          rintro e w' ⟨v', r', rfl, hB4, hO4, hL4⟩
          exact ⟨v', r', rfl, hB4, hO3.trans ((Onto.of hW v3).trans hO4), hL4.ahead (by rw [HN'.out]; omega) (by have := HKL.out; have := HDT.out; omega), Rm.onto hO4 n1 n2 n3 (Rm.keep hW R3)⟩
        clear hr ht hmt hkey hmk hkt hdte hEt KV0 hdt hks hkbl hbbl hkc c0 c1 c2 c3 c4 c5 c6 c7 c8 c9 HA1 r8 r9 hne1 hne2 hne3
        go_wp2
        go_region_held3 (fun w' => w'.cell? ⟨w.heap.size, 8, none⟩ = some (.slice (some ⟨bb, off, none⟩) m lc) ∧ w'.cell? ⟨w.heap.size, 9, none⟩ = some (.slice (some ⟨kb, koff, none⟩) m kc) ∧ w'.cell? ⟨kb, koff + x, none⟩ = some (.string key) ∧ w'.cell? ⟨bb, off + x * 10, none⟩ = some (.int .i64 kd2) ∧ w'.cell? ⟨bb, off + x * 10 + 1, none⟩ = some (.bool g2) ∧ w'.cell? ⟨bb, off + x * 10 + 2, none⟩ = some (.int .u64 (lb 0 x2')) ∧ w'.cell? ⟨bb, off + x * 10 + 3, none⟩ = some (.int .u64 (lb 1 x2')) ∧ w'.cell? ⟨bb, off + x * 10 + 4, none⟩ = some (.int .u64 (lb 2 x2')) ∧ w'.cell? ⟨bb, off + x * 10 + 5, none⟩ = some (.int .u64 (lb 3 x2')) ∧ w'.cell? ⟨bb, off + x * 10 + 6, none⟩ = some (.int .u64 b2) ∧ w'.cell? ⟨bb, off + x * 10 + 7, none⟩ = some (.string s2) ∧ w'.cell? ⟨bb, off + x * 10 + 8, none⟩ = some (.slice la2 l2.length lc2) ∧ w'.cell? ⟨bb, off + x * 10 + 9, none⟩ = some (.slice ka2 ks2.length kc2))
          ((refine (show Rm _ _ _ _ _ _ _ _ _ _ _ _ _ _ _ _ _ _ _ from ?_); (repeat (first | (with_reducible assumption) | (with_reducible refine Rm.alloc ?_ _) | (with_reducible refine Rm.drew ?_) | (with_reducible refine Rm.drewN ?_ _))); done))
          (first | (go_at_call 31; (with_reducible refine (KT.out _ (by repeat (first | (with_reducible exact Below.refl _ _) | (with_reducible refine bal ?_ _) | (with_reducible refine Below.drew ?_) | (with_reducible refine bdn ?_ _)))).mono ?_); rintro e w3 ⟨v3, rfl, F3, RM3⟩) | (go_at_call 18; (with_reducible refine (KV.out _ _ F3 RM3 _ (by repeat (first | (with_reducible exact Below.refl _ _) | (with_reducible refine bal ?_ _) | (with_reducible refine Below.drew ?_) | (with_reducible refine bdn ?_ _)))).mono ?_); rintro e w4 ⟨v4, r4, rfl, B4, O4, L4, RM4⟩))
        all_goals
          go_wp2
          go_roundw
          case rel => exact ⟨k + 1, r4, by omega, by go_num, B4, HO.out.trans O4.out, (by show Lim _ _ _ _; rw [flatMap_next HPx.out, ← List.append_assoc, HEx.out]; exact HLm.out.next (by rw [HN'.out]; omega) L4.out (by omega)), L4.out.pos HR0.out⟩
          case measure => simp [intOf]; omega
    · have hge : ¬ (k : Int) < (m : Int) := by omega
      go_wp2
      go_ret
      refine ⟨_, rfl, r, HB.out, HOw.out, ?_⟩
      have := HLm.out
      rw [List.take_of_length_le (by rw [HPL.out]; omega)] at this
      exact this
end Go.Proofs.YtfaaagmjmljhiaaGreatDoor
end
section
namespace Go.Proofs.YtfaaagmjmljhiaaGreatDoor
open Go.RowKit Go.Shelf
set_option linter.unusedVariables false

set_option maxRecDepth 100000 in
theorem aval_arr (g : Bool) (x0 x1 x2 x3 bi : Int) (s : ByteArray) (la : Option Addr) (n lc : Nat) (ka : Option Addr) (m kc : Nat) (v : Value) (l f : List UInt8) (M base : Nat) (w : World)
    (ka' : ∀ W, Below w.heap.size w W → Calls Tryz.prog 32 #[v, .slice la n lc] W fun e w' => ∃ v' r, e = .returned v' ∧ Bo w' base v' r ∧ Onto W w' v v' ∧ Lim l f r M) :
    Calls Tryz.prog 18 #[v, V10 7 g x0 x1 x2 x3 bi s la n lc ka m kc] w fun e w' => ∃ v' r, e = .returned v' ∧ Bo w' base v' r ∧ Onto w w' v v' ∧ Lim l f r M := by
  have KA := Lib.hid ka'
  clear ka'
  have B0 := Lib.hid (bal (Below.refl _ w) (.cells #[.int .i64 7, .bool g, .int .u64 x0, .int .u64 x1, .int .u64 x2, .int .u64 x3, .int .u64 bi, .string s, .slice la n lc, .slice ka m kc] 33))
  go_enter Tryz.func18, Tryz.ntmps18
  go_wp2_with (go_at_call 32; ((with_reducible refine (KA.out _ B0.out).mono ?_); rintro e w2 ⟨v2, r2, rfl, B2, O2, L2⟩))
  go_ret
  exact ⟨_, r2, rfl, B2, (Onto.of B0.out v).trans O2, L2⟩
set_option maxRecDepth 100000 in
theorem aval_map (g : Bool) (x0 x1 x2 x3 bi : Int) (s : ByteArray) (la : Option Addr) (n lc : Nat) (ka : Option Addr) (m kc : Nat) (v : Value) (l f : List UInt8) (M base : Nat) (w : World)
    (ka' : ∀ W, Below w.heap.size w W → Calls Tryz.prog 33 #[v, V10 8 g x0 x1 x2 x3 bi s la n lc ka m kc] W fun e w' => ∃ v' r, e = .returned v' ∧ Bo w' base v' r ∧ Onto W w' v v' ∧ Lim l f r M) :
    Calls Tryz.prog 18 #[v, V10 8 g x0 x1 x2 x3 bi s la n lc ka m kc] w fun e w' => ∃ v' r, e = .returned v' ∧ Bo w' base v' r ∧ Onto w w' v v' ∧ Lim l f r M := by
  have KA := Lib.hid ka'
  clear ka'
  have B0 := Lib.hid (bal (Below.refl _ w) (.cells #[.int .i64 8, .bool g, .int .u64 x0, .int .u64 x1, .int .u64 x2, .int .u64 x3, .int .u64 bi, .string s, .slice la n lc, .slice ka m kc] 33))
  go_enter Tryz.func18, Tryz.ntmps18
  go_wp2_with (go_at_call 33; ((with_reducible refine (KA.out _ B0.out).mono ?_); rintro e w2 ⟨v2, r2, rfl, B2, O2, L2⟩))
  go_ret
  exact ⟨_, r2, rfl, B2, (Onto.of B0.out v).trans O2, L2⟩
theorem natB_len (m tag x : Nat) (hx : x < 2 ^ 256) : (natB m tag x).length ≤ 60 := by
  unfold natB
  split
  · have := hds_len m x; omega
  · rw [List.length_append, List.length_append, be_len]
    have h1 := hds_len 6 tag
    have h2 := hds_len 2 ((blen x + 7) / 8)
    have h3 : blen x ≤ 256 := by
      rcases Nat.lt_or_ge 256 (blen x) with h4 | h4
      · exfalso
        by_cases h0 : x = 0
        · subst h0; exact absurd h4 (by decide)
        · have h5 := (blen_spec h0).2.1
          have h6 : 2 ^ 256 ≤ 2 ^ (blen x - 1) := Nat.pow_le_pow_right (by decide) (by omega)
          omega
      · exact h4
    omega
theorem intB_len (g : Bool) (x : Nat) (hx : x < 2 ^ 256) : (intB g x).length ≤ 60 := by
  unfold intB
  split
  · exact natB_len _ _ _ (by omega)
  · exact natB_len _ _ _ hx
theorem hby_le (m a n : Nat) (h : a < 28) : (hby m a n).length ≤ 9 := by
  rw [hby_len]
  have : hsz a ≤ 8 := by
    by_cases h1 : a < 24
    · rw [hsz_low h1]; omega
    · rcases (show a = 24 ∨ a = 25 ∨ a = 26 ∨ a = 27 by omega) with rfl | rfl | rfl | rfl <;> decide
  omega
theorem fltB_len (b : Nat) : (fltB b).length ≤ 9 := by
  unfold fltB
  split
  · exact hby_le _ _ _ (by decide)
  · split
    · exact hby_le _ _ _ (by decide)
    · exact hby_le _ _ _ (by decide)
theorem bytes_len (s : ByteArray) : s.data.toList.length = s.size := by rw [Array.length_toList]; rfl

section
variable {o : Own} {n : Nat} {E : List (List UInt8)}
theorem encO_1 (h : o.kind = 1) : encO o n E = hds 7 22 := by
  unfold encO
  rw [if_neg (by omega), if_neg (by omega), if_neg (by omega), if_neg (by omega), if_neg (by omega), if_neg (by omega), if_neg (by omega)]
theorem encO_2 (h : o.kind = 2) : encO o n E = hds 7 (20 + o.bits.toNat) := by
  unfold encO
  rw [if_pos h]
theorem encO_3 (h : o.kind = 3) : encO o n E = intB o.g o.x := by
  unfold encO
  rw [if_neg (by omega), if_pos h]
theorem encO_4 (h : o.kind = 4) : encO o n E = fltB o.bits.toNat := by
  unfold encO
  rw [if_neg (by omega), if_neg (by omega), if_pos h]
theorem encO_5 (h : o.kind = 5) : encO o n E = hds 3 o.text.size ++ o.text.data.toList := by
  unfold encO
  rw [if_neg (by omega), if_neg (by omega), if_neg (by omega), if_pos h]
theorem encO_6 (h : o.kind = 6) : encO o n E = hds 2 o.text.size ++ o.text.data.toList := by
  unfold encO
  rw [if_neg (by omega), if_neg (by omega), if_neg (by omega), if_neg (by omega), if_pos h]
theorem encO_7 (h : o.kind = 7) : encO o n E = hds 4 n ++ E.flatten := by
  unfold encO
  rw [if_neg (by omega), if_neg (by omega), if_neg (by omega), if_neg (by omega), if_neg (by omega), if_pos h]
theorem encO_8 (h : o.kind = 8) : encO o n E = hds 5 o.keys.length ++ (places o.keys).flatMap (memB o.keys E) := by
  unfold encO
  rw [if_neg (by omega), if_neg (by omega), if_neg (by omega), if_neg (by omega), if_neg (by omega), if_neg (by omega), if_pos h]
theorem over_5 (h : o.kind = 5 ∨ o.kind = 6) (ho : overB o n = false) : o.text.size ≤ 4096 := by
  unfold overB at ho
  rw [if_pos h] at ho
  have := of_decide_eq_false ho
  omega
theorem over_7 (h : o.kind = 7) (ho : overB o n = false) : n ≤ 1000 := by
  unfold overB at ho
  rw [if_neg (by omega), if_pos h] at ho
  have := of_decide_eq_false ho
  omega
theorem over_8 (h : o.kind = 8) (ho : overB o n = false) : o.keys.length ≤ 1000 ∧ n ≤ 1000 ∧ ∀ s ∈ o.keys, s.size ≤ 4096 := by
  unfold overB at ho
  rw [if_neg (by omega), if_neg (by omega), if_pos h, Bool.or_eq_false_iff, List.any_eq_false] at ho
  have h1 := of_decide_eq_false ho.1
  refine ⟨by omega, by omega, fun s hs => ?_⟩
  have := ho.2 s hs
  simp at this
  exact this
theorem rest_2 (h : o.kind = 2) (hr : restB o n = true) : o.bits ≤ 1 := by
  unfold restB at hr
  rw [if_neg (by omega), if_pos h] at hr
  simp at hr
  exact hr
theorem rest_8 (h : o.kind = 8) (hr : restB o n = true) : o.keys.length = n ∧ namesB o.keys = true := by
  unfold restB at hr
  rw [if_neg (by omega), if_neg (by omega), if_neg (by omega), if_neg (by omega), if_neg (by omega), if_pos h, Bool.and_eq_true] at hr
  exact ⟨of_decide_eq_true hr.1, hr.2⟩
end

theorem leafA {f : FuncId} {args : Array Value} {w : World} {base d : Nat} {v : Value} {l E : List UInt8} (hd : 1 ≤ d) (hE : E.length ≤ 5000) (hc : Calls Tryz.prog f args w fun e w' => ∃ v', e = .returned v' ∧ Bo w' base v' (l ++ E) ∧ Onto w w' v v') :
    Calls Tryz.prog f args w fun e w' => ∃ v' r, e = .returned v' ∧ Bo w' base v' r ∧ Onto w w' v v' ∧ Lim l E r (5000 * d) := by
  refine hc.mono ?_
  rintro e w' ⟨v', rfl, h1, h2⟩
  exact ⟨v', _, rfl, h1, h2, Lim.leaf (by omega)⟩
/-- appendValue of all that may be. -/
theorem avs_any : ∀ (T : VT) (W0 : World), T.In W0 → Gd T → T.depth ≤ 16 → AVs T W0 := by
  intro T
  induction T using VT.ind with
  | h o kids ih =>
    intro W0 hI hG hd w hw base v l hb0 hbase hB hl
    have hown := hG.2.own
    have hover := hG.over
    have hwf : o.WF kids.length := hI.wf
    obtain ⟨kb, koff, hKK⟩ := hI.keys'
    have hD : ∀ t ∈ kids, t.depth ≤ (VT.mk o kids).depth - 1 := fun t ht => by have := VT.depth_kid (o := o) ht; omega
    have hdp : 1 ≤ (VT.mk o kids).depth := by rw [VT.depth_mk]; omega
    have hKA := hI.hl
    have hins : ∀ (i : Nat) (t : VT), kids[i]? = some t → t.In W0 := fun i t h => hI.kid h
    have av : ∀ t ∈ kids, AVs t W0 := fun t ht => ih t ht W0 (hI.mem ht) (hG.kid ht) (by have := VT.depth_kid (o := o) ht; omega)
    obtain ⟨d, hde⟩ : ∃ d, (VT.mk o kids).depth = d := ⟨_, rfl⟩
    rw [hde] at hd hl hD hdp ⊢
    rw [encT_mk]
    have hrest : restB o kids.length = true := by unfold ownB at hown; rw [Bool.and_eq_true] at hown; exact hown.2
    have hkind := own_kind hown
    have hok := own_okI hown hwf.2.1
    clear ih
    have hl2 : l.length ≤ 900000 := by omega
    show Calls Tryz.prog 18 #[v, V10 o.kind o.g (lb 0 o.x) (lb 1 o.x) (lb 2 o.x) (lb 3 o.x) o.bits o.text o.la kids.length o.lcap o.ka o.keys.length o.kcap] w _
    rcases hkind with hk | hk | hk | hk | hk | hk | hk | hk
    · rw [encO_1 hk, hk]
      exact leafA hdp (by have := hds_len 7 22; omega) (aval_null o.g _ _ _ _ o.la _ o.lcap o.ka _ o.kcap v l base w o.bits o.text hbase hB hl2)
    · rw [encO_2 hk, hk]
      exact leafA hdp (by have := hds_len 7 (20 + o.bits.toNat); omega) (aval_bool o.g _ _ _ _ o.la _ o.lcap o.ka _ o.kcap v l base w o.bits hwf.2.2.1.1 (rest_2 hk hrest) o.text hbase hB hl2)
    · rw [encO_3 hk, hk]
      exact leafA hdp (by have := intB_len o.g o.x hwf.2.1; omega) (aval_int o.g o.x (fun hg => by have := hok hk; rcases Nat.eq_zero_or_pos o.x with h0 | h0; exact absurd ⟨hg, h0⟩ this; exact h0) hwf.2.1 o.bits o.text o.la _ o.lcap o.ka _ o.kcap v l base w hbase hB hl2)
    · rw [encO_4 hk, hk]
      obtain ⟨b, hb⟩ : ∃ b : Nat, o.bits = b := ⟨o.bits.toNat, (Int.toNat_of_nonneg hwf.2.2.1.1).symm⟩
      have hb2 : b < 18446744073709551616 := by have := hwf.2.2.1.2; rw [hb] at this; omega
      rw [hb, Int.toNat_natCast]
      exact leafA hdp (by have := fltB_len b; omega) (aval_float b hb2 o.g _ _ _ _ o.text o.la _ o.lcap o.ka _ o.kcap v l base w hbase hB hl2)
    · have hs := over_5 (Or.inl hk) hover
      rw [encO_5 hk, hk]
      exact leafA hdp (by rw [List.length_append, bytes_len]; have := hds_len 3 o.text.size; omega) (aval_text o.g _ _ _ _ o.la _ o.lcap o.ka _ o.kcap v l base w o.bits o.text (by omega) hbase hB hl2)
    · have hs := over_5 (Or.inr hk) hover
      rw [encO_6 hk, hk]
      exact leafA hdp (by rw [List.length_append, bytes_len]; have := hds_len 2 o.text.size; omega) (aval_bytes o.g _ _ _ _ o.la _ o.lcap o.ka _ o.kcap v l base w o.bits o.text (by omega) hbase hB hl2)
    · have hn := over_7 hk hover
      obtain ⟨bb, off, ha, hb⟩ := hKA
      have hd1 : d - 1 + 1 = d := by omega
      have := aval_arr o.g (lb 0 o.x) (lb 1 o.x) (lb 2 o.x) (lb 3 o.x) o.bits o.text o.la kids.length o.lcap o.ka o.keys.length o.kcap v l (hds 4 kids.length ++ (kids.map encT).flatten) (5000 * (d - 1 + 1)) base w (fun W hW =>
        aarr_any o.la o.lcap kids bb off (d - 1) W0 ⟨ha, hb, hins, by omega⟩ hD (by omega) hn av W (below_seq hw (below_le hW (by have := hw.size; omega))) base v l hb0 (Nat.le_trans hbase hW.size) (Bo.keep hB hW) (by rw [hd1]; exact hl))
      rw [hd1] at this
      rw [encO_7 hk, hk]
      exact this
    · have hrr := rest_8 hk hrest
      have hoo := over_8 hk hover
      obtain ⟨bb, off, ha, hb⟩ := hKA
      have hd1 : d - 1 + 1 = d := by omega
      have := aval_map o.g (lb 0 o.x) (lb 1 o.x) (lb 2 o.x) (lb 3 o.x) o.bits o.text o.la kids.length o.lcap o.ka o.keys.length o.kcap v l (hds 5 o.keys.length ++ (places o.keys).flatMap (memB o.keys (kids.map encT))) (5000 * (d - 1 + 1)) base w (fun W hW =>
        amap_any o.g _ _ _ _ o.bits o.text o.la o.lcap o.ka o.kcap o.keys kb koff kids bb off (d - 1) W0 hKK ⟨ha, hb, hins, by omega⟩ hrr.2 hoo.2.2 hrr.1 hD (by omega) hoo.2.1 av W (below_seq hw (below_le hW (by have := hw.size; omega))) base v l hb0 (Nat.le_trans hbase hW.size) (Bo.keep hB hW) (by rw [hd1]; exact hl))
      rw [hd1] at this
      rw [encO_8 hk, hk]
      exact this
set_option maxRecDepth 100000 in
/-- Encode of what may not be. -/
theorem enc_no (z : Int) (hz : z ≠ 0) (kd : Int) (g : Bool) (x0 x1 x2 x3 bi : Int) (s : ByteArray) (la : Option Addr) (n lc : Nat) (ka : Option Addr) (m kc : Nat) (w : World)
    (k1 : ∀ W, Below w.heap.size w W → Calls Tryz.prog 17 #[V10 kd g x0 x1 x2 x3 bi s la n lc ka m kc] W fun e w' => e = .returned (.int .i64 z) ∧ Below W.heap.size W w') :
    Calls Tryz.prog 10 #[V10 kd g x0 x1 x2 x3 bi s la n lc ka m kc] w fun e w' => e = .returned (.tuple #[.slice none 0 0, .int .i64 z]) ∧ Below w.heap.size w w' := by
  have K1 := Lib.hid k1
  clear k1
  have hz2 : (z != 0) = true := by simpa using hz
  have B0 := Lib.hid (bal (Below.refl _ w) (.cells #[.int .i64 kd, .bool g, .int .u64 x0, .int .u64 x1, .int .u64 x2, .int .u64 x3, .int .u64 bi, .string s, .slice la n lc, .slice ka m kc] 33))
  go_enter Tryz.func10, Tryz.ntmps10
  go_wp2_with (go_at_call 17; ((with_reducible refine (K1.out _ B0.out).mono ?_); rintro e w1 ⟨rfl, hb⟩; have B1 := Lib.hid (btr B0.out hb); clear hb))
  go_ret2
  exact ⟨rfl, B1.out⟩
set_option maxRecDepth 100000 in
/-- Encode of what is too long. -/
theorem enc_long (kd : Int) (g : Bool) (x0 x1 x2 x3 bi : Int) (s : ByteArray) (la : Option Addr) (n lc : Nat) (ka : Option Addr) (m kc : Nat) (w : World)
    (k1 : ∀ W, Below w.heap.size w W → Calls Tryz.prog 17 #[V10 kd g x0 x1 x2 x3 bi s la n lc ka m kc] W fun e w' => e = .returned (.int .i64 0) ∧ Below W.heap.size W w')
    (k2 : ∀ W, Below w.heap.size w W → Calls Tryz.prog 18 #[.slice none 0 0, V10 kd g x0 x1 x2 x3 bi s la n lc ka m kc] W fun e w' => ∃ v' r, e = .returned v' ∧ Bo w' w.heap.size v' r ∧ Onto W w' (.slice none 0 0) v' ∧ 65536 < r.length ∧ r.length ≤ 1000000) :
    Calls Tryz.prog 10 #[V10 kd g x0 x1 x2 x3 bi s la n lc ka m kc] w fun e w' => e = .returned (.tuple #[.slice none 0 0, .int .i64 8]) ∧ Below w.heap.size w w' := by
  have K1 := Lib.hid k1
  have K2 : Hid (∀ W, Below w.heap.size w W → Calls Tryz.prog 18 #[.slice none 0 0, V10 kd g x0 x1 x2 x3 bi s la n lc ka m kc] W fun e w' => ∃ (gg cap N : Nat), e = .returned (.slice (some ⟨gg, 0, none⟩) N cap) ∧ (65536 : Int) < (N : Int) ∧ (N : Int) ≤ 1000000 ∧ Below w.heap.size w w') := by
    intro W hW
    refine (k2 W hW).mono ?_
    rintro e w' ⟨v', r, rfl, hB, hO, h1, h2⟩
    obtain ⟨gg, cap, rfl, _⟩ := hB.some (by omega)
    exact ⟨gg, cap, r.length, rfl, by omega, by omega, btr hW (hO.frame (Nat.le_refl _) (Bo.nil _ _))⟩
  clear k1 k2
  have B0 := Lib.hid (bal (Below.refl _ w) (.cells #[.int .i64 kd, .bool g, .int .u64 x0, .int .u64 x1, .int .u64 x2, .int .u64 x3, .int .u64 bi, .string s, .slice la n lc, .slice ka m kc] 33))
  have R0 := Lib.hid (Row10.new w (.int .i64 kd) (.bool g) (.int .u64 x0) (.int .u64 x1) (.int .u64 x2) (.int .u64 x3) (.int .u64 bi) (.string s) (.slice la n lc) (.slice ka m kc))
  go_enter Tryz.func10, Tryz.ntmps10
  go_wp2_with (first
    | (go_at_call 17; ((with_reducible refine (K1.out _ B0.out).mono ?_); rintro e w1 ⟨rfl, hb⟩; have B1 := Lib.hid (btr B0.out hb); have R1 := Lib.hid (Row10.keep hb R0.out); obtain ⟨p0, p1, p2, p3, p4, p5, p6, p7, p8, p9⟩ := R1.out.parts; clear hb))
    | (go_at_call 18; ((with_reducible refine (K2.out _ B1.out).mono ?_); rintro e w2 ⟨gg, cap, N, rfl, h1, h2, hb2⟩)))
  go_ret2
  exact ⟨rfl, hb2⟩
/-- What Encode answers. -/
def EncIs (T : VT) (e : Ending) (w' : World) (N : Nat) : Prop :=
  (mayN T ≠ 0 ∧ e = .returned (.tuple #[.slice none 0 0, .int .i64 (mayN T)])) ∨ (mayN T = 0 ∧ 65536 < (encT T).length ∧ e = .returned (.tuple #[.slice none 0 0, .int .i64 8])) ∨
  (mayN T = 0 ∧ (encT T).length ≤ 65536 ∧ ∃ g cap, e = .returned (.tuple #[.slice (some ⟨g, 0, none⟩) (encT T).length cap, .int .i64 0]) ∧ N ≤ g ∧ BytesAt w' g 0 (encT T))
theorem intB_pos (g : Bool) (x : Nat) : 0 < (intB g x).length := by
  unfold intB natB
  split <;> split
  · exact hds_pos _ _
  · rw [List.length_append]; have := hds_pos 6 3; omega
  · exact hds_pos _ _
  · rw [List.length_append]; have := hds_pos 6 2; omega
theorem fltB_pos (b : Nat) : 0 < (fltB b).length := by
  unfold fltB
  split
  · rw [hby_len]; omega
  · split
    · rw [hby_len]; omega
    · rw [hby_len]; omega
theorem encT_pos : ∀ T, 0 < (encT T).length := by
  intro T
  obtain ⟨o, kids⟩ := T
  rw [encT_mk]
  unfold encO
  split
  · exact hds_pos _ _
  split
  · exact intB_pos _ _
  split
  · exact fltB_pos _
  split
  · rw [List.length_append]; have := hds_pos 3 o.text.size; omega
  split
  · rw [List.length_append]; have := hds_pos 2 o.text.size; omega
  split
  · rw [List.length_append]; have := hds_pos 4 kids.length; omega
  split
  · rw [List.length_append]; have := hds_pos 5 o.keys.length; omega
  · exact hds_pos _ _
/-- Encode of every value. -/
theorem enc_any (T : VT) (hn : T.nodes ≤ 10000) (w : World) (hQ : Qv T w) : Calls Tryz.prog 10 #[T.val] w fun e w' => EncIs T e w' w.heap.size ∧ Below w.heap.size w w' := by
  have k1 := fun W (hb : Below w.heap.size w W) => vmay T hn W (hQ.keep hb)
  by_cases h0 : mayN T = 0
  · obtain ⟨hG, hd⟩ := gd_of hQ.ins h0
    have av := avs_any T w hQ.ins hG hd
    rw [h0] at k1
    have k2 := fun W (hb : Below w.heap.size w W) => av W hb w.heap.size (.slice none 0 0) [] (Nat.le_refl _) hb.size (Bo.nil _ _) (by rw [List.length_nil]; omega)
    by_cases h1 : (encT T).length ≤ 65536
    · refine (enc_ok _ _ _ _ _ _ _ _ _ _ _ _ _ _ (encT T) (encT_pos T) h1 w k1 (fun W hb => (k2 W hb).mono ?_)).mono ?_
      · rintro e w' ⟨v', r, rfl, hB, hO, hL⟩
        rw [hL.told.1 h1] at hB
        exact ⟨v', rfl, hB, hO⟩
      · rintro e w' ⟨v', rfl, hB, hb⟩
        obtain ⟨g, cap, rfl, hg, _, _, _, hc⟩ := hB.some (encT_pos T)
        exact ⟨Or.inr (Or.inr ⟨h0, h1, g, cap, rfl, hg, fun i b hi => by rw [Nat.zero_add]; exact hc i b hi⟩), hb⟩
    · refine (enc_long _ _ _ _ _ _ _ _ _ _ _ _ _ _ w k1 (fun W hb => (k2 W hb).mono ?_)).mono ?_
      · rintro e w' ⟨v', r, rfl, hB, hO, hL⟩
        exact ⟨v', r, rfl, hB, hO, hL.told.2.1 (by omega), by have := hL.told.2.2; omega⟩
      · rintro e w' ⟨rfl, hb⟩
        exact ⟨Or.inr (Or.inl ⟨h0, by omega, rfl⟩), hb⟩
  · refine (enc_no _ h0 _ _ _ _ _ _ _ _ _ _ _ _ _ _ w k1).mono ?_
    rintro e w' ⟨rfl, hb⟩
    exact ⟨Or.inl ⟨h0, rfl⟩, hb⟩
end Go.Proofs.YtfaaagmjmljhiaaGreatDoor
end
section
namespace Go.Proofs.YtfaaagmjmljhiaaGreatDoor
open Go.RowKit Go.Shelf

/-- An array of values. -/
def listP (la : Option Addr) (lc : Nat) (kids : List VT) : VT := .mk ⟨7, false, 0, 0, ⟨#[]⟩, la, lc, none, 0, []⟩ kids
theorem listP_in {la : Option Addr} {lc : Nat} {kids : List VT} {w : World} {bb off : Nat} (hK : Kids w la kids bb off) (h1 : kids.length ≤ lc) (h2 : lc ≤ maxLen) : (listP la lc kids).In w :=
  .mk _ _ ⟨⟨by show _ ≤ (7 : Int); omega, by show (7 : Int) ≤ _; omega⟩, by show 0 < _; omega, ⟨Int.le_refl _, by show (0 : Int) ≤ _; omega⟩, Nat.zero_le _, ⟨h1, h2⟩, ⟨Nat.le_refl _, Nat.zero_le _⟩, fun s h => by cases h⟩
    ⟨0, 0, fun h => absurd h (by simp), fun i s h => by simp at h⟩ ⟨bb, off, hK.la, hK.cells⟩ hK.ins
theorem listP_val (la : Option Addr) (lc : Nat) (kids : List VT) : (listP la lc kids).val = V10 7 false 0 0 0 0 0 ⟨#[]⟩ la kids.length lc none 0 0 := by
  show V10 7 false (lb 0 0) (lb 1 0) (lb 2 0) (lb 3 0) 0 ⟨#[]⟩ la kids.length lc none 0 0 = _
  simp only [lb_zero]
theorem listP_enc (la : Option Addr) (lc : Nat) (kids : List VT) : encT (listP la lc kids) = hds 4 kids.length ++ (kids.map encT).flatten := by
  unfold listP
  rw [encT_mk]
  exact encO_7 rfl
theorem eq5_same5 (g : Bool) (a0 a1 a2 a3 : Int) : eq5 g a0 a1 a2 a3 g a0 a1 a2 a3 = true := by simp [eq5, eq4]
theorem listP_q {la : Option Addr} {lc : Nat} {kids : List VT} {w : World} {bb off : Nat} (hT : Tb w) (hK : Kids w la kids bb off) (h1 : kids.length ≤ lc) (h2 : lc ≤ maxLen) (hf : ∀ t ∈ kids, fewOk t = true) : Qv (listP la lc kids) w :=
  ⟨listP_in hK h1 h2, hT, .mk _ _ ⟨Nat.zero_le _, fun s h => by cases h⟩ (fun t h => by
    obtain ⟨i, hi⟩ := List.getElem?_of_mem h
    exact (few_q (hf t h) (hK.ins i t hi) hT).1.small)⟩
theorem sum_le {l : List Nat} {c : Nat} (h : ∀ x ∈ l, x ≤ c) : l.sum ≤ c * l.length := by
  induction l with
  | nil => simp
  | cons a l ih =>
    rw [List.sum_cons, List.length_cons, Nat.mul_add, Nat.mul_one]
    have h1 := h a (by simp)
    have h2 := ih fun x hx => h x (by simp [hx])
    omega
theorem listP_nodes {la : Option Addr} {lc : Nat} {kids : List VT} (h : kids.length ≤ 20) (hf : ∀ t ∈ kids, t.nodes ≤ 400) : (listP la lc kids).nodes ≤ 10000 := by
  unfold listP
  rw [VT.nodes_mk]
  have := sum_le (l := kids.map VT.nodes) (c := 400) fun x hx => by
    obtain ⟨t, ht, rfl⟩ := List.mem_map.1 hx
    exact hf t ht
  rw [List.length_map] at this
  omega
theorem has_no8 {p : VT → Bool} {o : Own} {kids : List VT} (h0 : p (.mk o kids) = false) (h : ∀ t ∈ kids, hasT p t = false) : hasT p (.mk o kids) = false := by
  rw [hasT_mk, h0, Bool.false_or, List.any_eq_false]
  intro t ht
  rw [h t ht]
  simp
theorem may_parts {T : VT} (h : mayN T = 0) : T.depth ≤ 16 ∧ hasT overT T = false ∧ hasT wrongT T = false := by
  unfold mayN at h
  split at h
  · cases h
  · split at h
    · cases h
    · split at h
      · cases h
      · rename_i h1 h2 h3
        exact ⟨by omega, by simpa using h2, by simpa using h3⟩
theorem may_of {T : VT} (h1 : T.depth ≤ 16) (h2 : hasT overT T = false) (h3 : hasT wrongT T = false) : mayN T = 0 := by
  unfold mayN
  rw [if_neg (by omega), h2, h3]
  rfl
theorem over7_no {o : Own} {n : Nat} (h : o.kind = 7) (hn : n ≤ 1000) : overB o n = false := by
  unfold overB
  rw [if_neg (by omega), if_pos h]
  exact decide_eq_false (by omega)
theorem listP_may {la : Option Addr} {lc : Nat} {kids : List VT} (hn : kids.length ≤ 1000) (h : ∀ t ∈ kids, mayN t = 0 ∧ t.depth ≤ 15) : mayN (listP la lc kids) = 0 := by
  refine may_of ?_ (has_no8 ?_ fun t ht => (may_parts (h t ht).1).2.1) (has_no8 ?_ fun t ht => (may_parts (h t ht).1).2.2)
  · unfold listP
    rw [VT.depth_mk]
    have : (kids.map VT.depth).foldl max 0 ≤ 15 := foldl_max_le (Nat.zero_le _) fun x hx => by
      obtain ⟨t, ht, rfl⟩ := List.mem_map.1 hx
      exact (h t ht).2
    omega
  · exact over7_no rfl hn
  · show (!ownB ⟨7, false, 0, 0, ⟨#[]⟩, la, lc, none, 0, []⟩ kids.length) = false
    have h1 : ownB ⟨7, false, 0, 0, ⟨#[]⟩, la, lc, none, 0, []⟩ kids.length = true := by
      unfold ownB
      rw [Bool.and_eq_true]
      constructor
      · unfold outB
        simp only
        rw [if_neg (by omega), if_neg (by omega), if_neg (by omega), if_pos trivial]
        rw [eqO_parts]
        refine ⟨rfl, ?_, rfl, rfl, rfl, rfl⟩
        simp only [lb_zero]
        exact eq5_same5 _ _ _ _ _
      · unfold restB
        rw [if_pos (by show (7 : Int) = 1 ∨ (7 : Int) = 6 ∨ (7 : Int) = 7; omega)]
    rw [h1]; rfl
end Go.Proofs.YtfaaagmjmljhiaaGreatDoor
end
