/-
  ValSame ValCmp ValSameT ValCmpT ValOrd, one behind the other: a claim holds at most 60 files.
-/
import Derived.Test.YtfaaagmjmljhiaaGreatDoorValFew
import Derived.Lib.QuietBelow
import Derived.BigQuiet
import Derived.Test.YtfaaagmjmljhiaaGreatDoorShelf
import Derived.Test.YtfaaagmjmljhiaaGreatDoorValTold
section
namespace Go.Proofs.YtfaaagmjmljhiaaGreatDoor
open Go.RowKit Go.Shelf
open Go.Sort (grow)
attribute [local go_sem ↓] eqlO eql_nat neq_nat eql_int5 neq_int5

/-- Lists of texts: the same? -/
def keysEq (a b : List ByteArray) : Bool := decide (a.length = b.length) && (a.zip b).all fun p => p.1.toList == p.2.toList
/-- Lists of values: the same, by a function of each of the first? -/
def kidsEq (fs : List (VT → Bool)) (us : List VT) : Bool := decide (fs.length = us.length) && (fs.zip us).all fun p => p.1 p.2
theorem zip_at {α β : Type} {a : List α} {b : List β} {k : Nat} {x : α} {y : β} (h1 : a[k]? = some x) (h2 : b[k]? = some y) : (a.zip b)[k]? = some (x, y) := by
  rw [List.getElem?_zip_eq_some]; exact ⟨h1, h2⟩
theorem zall_next {α : Type} {l : List α} {p : α → Bool} {k : Nat} {x : α} (h : l[k]? = some x) : (l.take (k + 1)).all p = ((l.take k).all p && p x) := by
  rw [take_next h, List.all_append]; simp
theorem zall_no {α : Type} {l : List α} {p : α → Bool} {k : Nat} {x : α} (h : l[k]? = some x) (hp : p x = false) : l.all p = false := by
  rw [Bool.eq_false_iff]
  intro ha
  rw [List.all_eq_true.1 ha x (List.mem_of_getElem? h)] at hp
  cases hp
theorem keysEq_no {a b : List ByteArray} {k : Nat} {x y : ByteArray} (h1 : a[k]? = some x) (h2 : b[k]? = some y) (h : (x.toList == y.toList) = false) : keysEq a b = false := by
  unfold keysEq
  rw [zall_no (zip_at h1 h2) h, Bool.and_false]
theorem keysEq_yes {a b : List ByteArray} {k : Nat} (hl : a.length = b.length) (hk : a.length ≤ k) (h : (((a.zip b).take k).all fun p => p.1.toList == p.2.toList) = true) : keysEq a b = true := by
  unfold keysEq
  rw [decide_eq_true hl, Bool.true_and]
  rwa [List.take_of_length_le (by rw [List.length_zip]; omega)] at h
theorem keysEq_len {a b : List ByteArray} (hl : a.length ≠ b.length) : keysEq a b = false := by unfold keysEq; rw [decide_eq_false hl]; rfl

theorem kidsEq_len {fs : List (VT → Bool)} {us : List VT} (hl : fs.length ≠ us.length) : kidsEq fs us = false := by unfold kidsEq; rw [decide_eq_false hl]; rfl
theorem kidsEq_no {fs : List (VT → Bool)} {us : List VT} {k : Nat} {f : VT → Bool} {u : VT} (h1 : fs[k]? = some f) (h2 : us[k]? = some u) (h : f u = false) : kidsEq fs us = false := by
  unfold kidsEq
  rw [zall_no (zip_at h1 h2) h, Bool.and_false]
theorem kidsEq_yes {fs : List (VT → Bool)} {us : List VT} {k : Nat} (hl : fs.length = us.length) (hk : fs.length ≤ k) (h : (((fs.zip us).take k).all fun p => p.1 p.2) = true) : kidsEq fs us = true := by
  unfold kidsEq
  rw [decide_eq_true hl, Bool.true_and]
  rwa [List.take_of_length_le (by rw [List.length_zip]; omega)] at h

end Go.Proofs.YtfaaagmjmljhiaaGreatDoor
end
section
namespace Go.Proofs.YtfaaagmjmljhiaaGreatDoor
open Go.RowKit Go.Shelf

theorem nan_s (x : ByteArray) (w : World) : Calls Tryz.prog 206 #[.string x] w fun e w' => e = .returned (.bool false) ∧ w = w' := by
  go_enter Tryz.func206, Tryz.ntmps206
  go_wp2
  go_ret
  exact ⟨by simp, rfl⟩
/-- Texts, by bytes. -/
def cmpS (a b : ByteArray) : Int := if Op.bytesLess a.toList b.toList then -1 else if a.toList == b.toList then 0 else 1
/-- The first that is not 0. -/
def firstNZ : List Int → Int
  | [] => 0
  | c :: l => if c = 0 then firstNZ l else c
theorem firstNZ_zero {l : List Int} (h : ∀ c ∈ l, c = 0) : firstNZ l = 0 := by
  induction l with
  | nil => rfl
  | cons c l ih => rw [firstNZ, if_pos (h c (by simp))]; exact ih fun d hd => h d (by simp [hd])
theorem firstNZ_hit {l : List Int} : ∀ {k : Nat} {c : Int}, l[k]? = some c → c ≠ 0 → (∀ d ∈ l.take k, d = 0) → firstNZ l = c := by
  induction l with
  | nil => intro k c h; simp at h
  | cons d l ih =>
    intro k c h hc hz
    cases k with
    | zero =>
      simp at h
      subst h
      rw [firstNZ, if_neg hc]
    | succ k =>
      rw [firstNZ, if_pos (hz d (by simp))]
      exact ih (by simpa using h) hc fun e he => hz e (by simp [he])
def cmpKs (a b : List ByteArray) : Int := firstNZ ((a.zip b).map fun p => cmpS p.1 p.2)
def cmpF (fs : List (VT → Int)) (us : List VT) : Int := if firstNZ ((fs.zip us).map fun p => p.1 p.2) = 0 then Lib.compareInt (fs.length : Int) (us.length : Int) else firstNZ ((fs.zip us).map fun p => p.1 p.2)
theorem zero_next {α : Type} {l : List α} {f : α → Int} {k : Nat} {x : α} (hx : l[k]? = some x) (h : ∀ c ∈ (l.take k).map f, c = 0) (h0 : f x = 0) : ∀ c ∈ (l.take (k + 1)).map f, c = 0 := by
  intro c hc
  rw [take_next hx, List.map_append] at hc
  rcases List.mem_append.1 hc with hc | hc
  · exact h c hc
  · simp at hc; rw [hc, h0]
theorem hit_at {α : Type} {l : List α} {f : α → Int} {k : Nat} {x : α} (hx : l[k]? = some x) (h : ∀ c ∈ (l.take k).map f, c = 0) (h0 : f x ≠ 0) : firstNZ (l.map f) = f x := by
  refine firstNZ_hit (k := k) (by rw [List.getElem?_map, hx]; rfl) h0 ?_
  rw [← List.map_take]; exact h
theorem all_zero {α : Type} {l : List α} {f : α → Int} {k : Nat} (hk : l.length ≤ k) (h : ∀ c ∈ (l.take k).map f, c = 0) : firstNZ (l.map f) = 0 := by
  rw [List.take_of_length_le hk] at h
  exact firstNZ_zero h

theorem cmpF_hit {fs : List (VT → Int)} {us : List VT} {k : Nat} {f : VT → Int} {u : VT} (hf : fs[k]? = some f) (hu : us[k]? = some u) (h : ∀ c ∈ ((fs.zip us).take k).map (fun p => p.1 p.2), c = 0) (h0 : f u ≠ 0) : cmpF fs us = f u := by
  have := hit_at (f := fun p : (VT → Int) × VT => p.1 p.2) (zip_at hf hu) h h0
  unfold cmpF
  rw [this, if_neg h0]
theorem cmpF_end {fs : List (VT → Int)} {us : List VT} {k : Nat} (hk : fs.length ≤ k ∨ us.length ≤ k) (h : ∀ c ∈ ((fs.zip us).take k).map (fun p => p.1 p.2), c = 0) : cmpF fs us = Lib.compareInt (fs.length : Int) (us.length : Int) := by
  have := all_zero (l := fs.zip us) (by rw [List.length_zip]; omega) h
  unfold cmpF
  rw [this, if_pos rfl]

end Go.Proofs.YtfaaagmjmljhiaaGreatDoor
end
section
namespace Go.Proofs.YtfaaagmjmljhiaaGreatDoor
open Go.RowKit Go.Shelf
open Go.Sort (grow)
attribute [local go_sem ↓] eqlO

theorem row10_new2 (w : World) (o : Obj) (v0 v1 v2 v3 v4 v5 v6 v7 v8 v9 : Value) : Row10 ((w.alloc o).alloc (.cells #[v0, v1, v2, v3, v4, v5, v6, v7, v8, v9] 33)) (w.heap.size + 1) v0 v1 v2 v3 v4 v5 v6 v7 v8 v9 := by
  have h := Row10.new (w.alloc o) v0 v1 v2 v3 v4 v5 v6 v7 v8 v9
  have hs : (w.alloc o).heap.size = w.heap.size + 1 := by simp
  rwa [hs] at h
/-- Are two values the same in all parts? -/
def sameT : VT → VT → Bool
  | .mk o l, U => eqO o.kind o.g (lb 0 o.x) (lb 1 o.x) (lb 2 o.x) (lb 3 o.x) o.bits o.text (o.keys.length : Int) (l.length : Int) U.o.kind U.o.g (lb 0 U.o.x) (lb 1 U.o.x) (lb 2 U.o.x) (lb 3 U.o.x) U.o.bits U.o.text (U.o.keys.length : Int) (U.kids.length : Int) &&
      (keysEq o.keys U.o.keys && kidsEq (l.map fun k => sameT k) U.kids)
end Go.Proofs.YtfaaagmjmljhiaaGreatDoor
end
section
namespace Go.Proofs.YtfaaagmjmljhiaaGreatDoor
open Go.RowKit Go.Shelf
attribute [local go_sem ↓] eql_nat neq_nat eql_int5 neq_int5

def cmpI (g : Bool) (x : Nat) : Int := if g then -(x : Int) else x
/-- whole.Cmp, of any two. -/
def cmpW (g : Bool) (x : Nat) (h : Bool) (y : Nat) : Int := if (g = true ∧ x = 0) ∨ (h = true ∧ y = 0) then 0 else cmpv (cmpI g x) (cmpI h y)
theorem I5_cmpI {g : Bool} {x : Nat} (h : ¬ (g = true ∧ x = 0)) : I5 g x = Iz (cmpI g x) := by
  cases g with
  | false => exact (Iz_nat x).symm
  | true => exact (Iz_neg (fun e => h ⟨rfl, e⟩)).symm
theorem cmpI_abs (g : Bool) (x : Nat) : (cmpI g x).natAbs = x := by cases g <;> simp [cmpI]
set_option maxHeartbeats 1000000
set_option maxRecDepth 100000
theorem cmpInt_self (x : Int) : Lib.compareInt x x = 0 := by unfold Lib.compareInt; rw [if_neg (by omega), if_neg (by omega)]
/-- value.Cmp, of any two, by what each kind's comparison answers. -/
def cmpO (kd kd' b b' W S : Int) (m m' : Nat) (K F : Int) : Int :=
  if kd = kd' then
    if kd = 2 ∨ kd = 4 then Lib.compareInt b b'
    else if kd = 3 then W
    else if kd = 5 ∨ kd = 6 then S
    else if kd = 7 then F
    else if kd = 8 then
      if m = m' then
        if K = 0 then F else K
      else Lib.compareInt (m : Int) (m' : Int)
    else 0
  else Lib.compareInt kd kd'
def cmpT : VT → VT → Int
  | .mk o l, U => cmpO o.kind U.o.kind o.bits U.o.bits (cmpW o.g o.x U.o.g U.o.x) (cmpS o.text U.o.text) o.keys.length U.o.keys.length (cmpKs o.keys U.o.keys) (cmpF (l.map fun k => cmpT k) U.kids)
theorem cmpInt_ne {x y : Int} (h : x ≠ y) : (Lib.compareInt x y != 0) = true := by
  unfold Lib.compareInt
  by_cases h1 : x < y
  · rw [if_pos h1]; rfl
  · rw [if_neg h1, if_pos (by omega)]; rfl
end Go.Proofs.YtfaaagmjmljhiaaGreatDoor
end
section
namespace Go.Proofs.YtfaaagmjmljhiaaGreatDoor
open Go.RowKit Go.Shelf

/-- Lists of numbers, by the first that differs; the shorter is less. -/
def lexc : List Int → List Int → Int
  | [], [] => 0
  | [], _ :: _ => -1
  | _ :: _, [] => 1
  | a :: l, b :: m => if a < b then -1 else if b < a then 1 else lexc l m
/-- The first, or the second where it is 0. -/
def ord (a b : Int) : Int := if a = 0 then b else a
theorem lexc_three : ∀ a b, lexc a b = -1 ∨ lexc a b = 0 ∨ lexc a b = 1
  | [], [] => .inr (.inl rfl)
  | [], _ :: _ => .inl rfl
  | _ :: _, [] => .inr (.inr rfl)
  | a :: l, b :: m => by
    have := lexc_three l m
    unfold lexc; split
    · exact .inl rfl
    · split
      · exact .inr (.inr rfl)
      · exact this
theorem lexc_anti : ∀ a b, lexc b a = -lexc a b
  | [], [] => rfl
  | [], _ :: _ => rfl
  | _ :: _, [] => rfl
  | a :: l, b :: m => by
    have := lexc_anti l m
    unfold lexc
    by_cases h1 : a < b
    · rw [if_pos h1, if_neg (by omega), if_pos h1]; rfl
    · by_cases h2 : b < a
      · rw [if_pos h2, if_neg h1, if_pos h2]
      · rw [if_neg h2, if_neg h1, if_neg h1, if_neg h2]; exact this
theorem lexc_zero : ∀ a b, lexc a b = 0 → a = b
  | [], [], _ => rfl
  | [], _ :: _, h => by simp [lexc] at h
  | _ :: _, [], h => by simp [lexc] at h
  | a :: l, b :: m, h => by
    unfold lexc at h
    by_cases h1 : a < b
    · rw [if_pos h1] at h; omega
    · by_cases h2 : b < a
      · rw [if_neg h1, if_pos h2] at h; omega
      · rw [if_neg h1, if_neg h2] at h
        rw [lexc_zero l m h, show a = b by omega]
theorem lexc_self : ∀ a, lexc a a = 0
  | [] => rfl
  | a :: l => by unfold lexc; rw [if_neg (by omega), if_neg (by omega)]; exact lexc_self l
theorem lexc_less : ∀ a b c, lexc a b = -1 → lexc b c = -1 → lexc a c = -1
  | _, [], c, h1, h2 => by rename_i a; cases a <;> simp [lexc] at h1
  | [], _ :: _, [], h1, h2 => by simp [lexc] at h2
  | [], _ :: _, _ :: _, h1, h2 => rfl
  | _ :: _, _ :: _, [], h1, h2 => by simp [lexc] at h2
  | a :: l, b :: m, c :: n, h1, h2 => by
    unfold lexc at h1 h2 ⊢
    by_cases hab : a < b
    · by_cases hbc : b < c
      · rw [if_pos (by omega)]
      · by_cases hcb : c < b
        · rw [if_neg hbc, if_pos hcb] at h2; omega
        · rw [if_pos (by omega)]
    · by_cases hba : b < a
      · rw [if_neg hab, if_pos hba] at h1; omega
      · rw [if_neg hab, if_neg hba] at h1
        by_cases hbc : b < c
        · rw [if_pos (by omega)]
        · by_cases hcb : c < b
          · rw [if_neg hbc, if_pos hcb] at h2; omega
          · rw [if_neg hbc, if_neg hcb] at h2
            rw [if_neg (by omega), if_neg (by omega)]
            exact lexc_less l m n h1 h2
theorem lexc_cons (a b : Int) (l m : List Int) : lexc (a :: l) (b :: m) = ord (Lib.compareInt a b) (lexc l m) := by
  rw [lexc]
  unfold ord Lib.compareInt
  by_cases h1 : a < b
  · simp [h1]
  · by_cases h2 : b < a
    · simp [h1, h2]
    · simp [h1, h2]
theorem ord_zero (b : Int) : ord 0 b = b := rfl
theorem ord_ord (a b c : Int) : ord (ord a b) c = ord a (ord b c) := by unfold ord; split <;> simp_all
theorem ord_ne {a b : Int} (h : a ≠ 0) : ord a b = a := by unfold ord; rw [if_neg h]

/-- Bytes, a text, texts, lists of codes. -/
def codeB (l : List UInt8) : List Int := l.map (fun c => (c.toNat : Int) + 1) ++ [0]
def cmpB (a b : List UInt8) : Int := if Op.bytesLess a b then -1 else if a == b then 0 else 1
theorem cmpB_nil : cmpB [] [] = 0 := rfl
theorem code_b : ∀ (a b : List UInt8) (r r' : List Int), lexc (codeB a ++ r) (codeB b ++ r') = ord (cmpB a b) (lexc r r')
  | [], [], r, r' => by
    show lexc (0 :: r) (0 :: r') = _
    rw [lexc_cons]; rfl
  | [], c :: l, r, r' => by
    show lexc (0 :: r) (((c.toNat : Int) + 1) :: (codeB l ++ r')) = _
    rw [lexc, if_pos (by omega)]; rfl
  | c :: l, [], r, r' => by
    show lexc (((c.toNat : Int) + 1) :: (codeB l ++ r)) (0 :: r') = _
    rw [lexc, if_neg (by omega), if_pos (by omega)]; rfl
  | c :: l, d :: m, r, r' => by
    have ih := code_b l m r r'
    show lexc (((c.toNat : Int) + 1) :: (codeB l ++ r)) (((d.toNat : Int) + 1) :: (codeB m ++ r')) = _
    rw [lexc]
    by_cases h1 : c < d
    · have h1' := UInt8.lt_iff_toNat_lt.1 h1
      rw [if_pos (by omega)]
      unfold cmpB
      rw [Op.bytesLess, decide_eq_true h1]; rfl
    · have h1' : ¬ c.toNat < d.toNat := fun h => h1 (UInt8.lt_iff_toNat_lt.2 h)
      by_cases h2 : c = d
      · subst h2
        rw [if_neg (by omega), if_neg (by omega), ih]
        have : cmpB (c :: l) (c :: m) = cmpB l m := by
          unfold cmpB
          rw [Op.bytesLess, decide_eq_false h1]
          simp
        rw [this]
      · have h3 : c.toNat ≠ d.toNat := fun h => h2 (UInt8.toNat_inj.1 h)
        rw [if_neg (by omega), if_pos (by omega)]
        have : cmpB (c :: l) (d :: m) = 1 := by
          unfold cmpB
          rw [Op.bytesLess, decide_eq_false h1]
          simp [h2]
        rw [this]; rfl
def codeS (s : ByteArray) : List Int := codeB s.toList
theorem code_s (a b : ByteArray) (r r' : List Int) : lexc (codeS a ++ r) (codeS b ++ r') = ord (cmpS a b) (lexc r r') := code_b _ _ _ _
def codeKs (l : List ByteArray) : List Int := l.flatMap codeS
theorem firstNZ_cons (c : Int) (l : List Int) : firstNZ (c :: l) = ord c (firstNZ l) := rfl
theorem code_ks : ∀ (a b : List ByteArray) (r r' : List Int), a.length = b.length → lexc (codeKs a ++ r) (codeKs b ++ r') = ord (cmpKs a b) (lexc r r')
  | [], [], r, r', _ => rfl
  | [], _ :: _, _, _, h => by simp at h
  | _ :: _, [], _, _, h => by simp at h
  | x :: a, y :: b, r, r', h => by
    have ih := code_ks a b r r' (by simpa using h)
    have e1 : codeKs (x :: a) ++ r = codeS x ++ (codeKs a ++ r) := by unfold codeKs; rw [List.flatMap_cons, List.append_assoc]
    have e2 : codeKs (y :: b) ++ r' = codeS y ++ (codeKs b ++ r') := by unfold codeKs; rw [List.flatMap_cons, List.append_assoc]
    rw [e1, e2, code_s, ih, ← ord_ord]
    rfl
def codeL (l : List (List Int)) : List Int := l.flatMap (fun c => 1 :: c) ++ [0]
theorem codeL_cons (c : List Int) (l : List (List Int)) (r : List Int) : codeL (c :: l) ++ r = 1 :: (c ++ (codeL l ++ r)) := by unfold codeL; simp
theorem code_l (code : VT → List Int) (cmp : VT → VT → Int) : ∀ (l us : List VT) (r r' : List Int), (∀ t ∈ l, ∀ u ∈ us, ∀ r r', lexc (code t ++ r) (code u ++ r') = ord (cmp t u) (lexc r r')) →
    lexc (codeL (l.map code) ++ r) (codeL (us.map code) ++ r') = ord (cmpF (l.map fun k => cmp k) us) (lexc r r')
  | [], [], r, r', _ => by
    show lexc (0 :: r) (0 :: r') = _
    rw [lexc_cons]; rfl
  | [], u :: us, r, r', _ => by
    rw [List.map_cons, codeL_cons]
    show lexc (0 :: r) (1 :: _) = _
    rw [lexc, if_pos (by omega)]
    have : cmpF (([] : List VT).map fun k => cmp k) (u :: us) = -1 := by
      unfold cmpF Lib.compareInt
      simp [firstNZ]
      try omega
    rw [this]; rfl
  | t :: l, [], r, r', _ => by
    rw [List.map_cons, codeL_cons]
    show lexc (1 :: _) (0 :: r') = _
    rw [lexc, if_neg (by omega), if_pos (by omega)]
    have : cmpF ((t :: l).map fun k => cmp k) [] = 1 := by
      unfold cmpF Lib.compareInt
      simp [firstNZ]
      try omega
    rw [this]; rfl
  | t :: l, u :: us, r, r', h => by
    have ih := code_l code cmp l us r r' (fun t ht u hu => h t (by simp [ht]) u (by simp [hu]))
    rw [List.map_cons, List.map_cons, codeL_cons, codeL_cons, lexc_cons, cmpInt_self, ord_zero, h t (by simp) u (by simp), ih, ← ord_ord]
    congr 1
    have e : cmpF ((t :: l).map fun k => cmp k) (u :: us) = ord (cmp t u) (cmpF (l.map fun k => cmp k) us) := by
      have e1 : firstNZ ((((t :: l).map fun k => cmp k).zip (u :: us)).map fun p => p.1 p.2) = ord (cmp t u) (firstNZ (((l.map fun k => cmp k).zip us).map fun p => p.1 p.2)) := rfl
      unfold cmpF
      rw [e1]
      by_cases h0 : cmp t u = 0
      · rw [h0, ord_zero, ord_zero]
        have : Lib.compareInt ((((t :: l).map fun k => cmp k).length : Nat) : Int) (((u :: us).length : Nat) : Int) = Lib.compareInt (((l.map fun k => cmp k).length : Nat) : Int) ((us.length : Nat) : Int) := by
          unfold Lib.compareInt
          simp only [List.length_map, List.length_cons]
          congr 1
          · simp
          · congr 1
            simp
        rw [this]
      · rw [ord_ne h0, ord_ne h0, if_neg h0]
    exact e.symm

theorem cmpB_zero (a b : List UInt8) : cmpB a b = 0 ↔ a = b := by
  constructor
  · intro h
    unfold cmpB at h
    split at h
    · omega
    · split at h
      · rename_i h2; simpa using h2
      · omega
  · rintro rfl
    have h := code_b a a [] []
    rw [lexc_self] at h
    have h1 : lexc ([] : List Int) [] = 0 := rfl
    rw [h1] at h
    unfold ord at h
    split at h
    · assumption
    · exact h.symm
theorem firstNZ_iff (l : List Int) : firstNZ l = 0 ↔ ∀ c ∈ l, c = 0 := by
  induction l with
  | nil => simp [firstNZ]
  | cons c l ih =>
    rw [firstNZ_cons]
    unfold ord
    by_cases h : c = 0
    · rw [if_pos h, ih]; simp [h]
    · rw [if_neg h]; simp [h]
theorem keys_zero (a b : List ByteArray) (h : a.length = b.length) : keysEq a b = decide (cmpKs a b = 0) := by
  unfold keysEq cmpKs
  rw [decide_eq_true h, Bool.true_and, Bool.eq_iff_iff, decide_eq_true_iff, firstNZ_iff, List.all_eq_true]
  constructor
  · intro hh c hc
    obtain ⟨p, hp, rfl⟩ := List.mem_map.1 hc
    exact (cmpB_zero _ _).2 (by simpa using hh p hp)
  · intro hh p hp
    have := hh _ (List.mem_map.2 ⟨p, hp, rfl⟩)
    simpa using (cmpB_zero _ _).1 this
theorem kids_zero (same : VT → VT → Bool) (cmp : VT → VT → Int) (l us : List VT) (h : ∀ t ∈ l, ∀ u ∈ us, same t u = decide (cmp t u = 0)) :
    kidsEq (l.map fun k => same k) us = decide (cmpF (l.map fun k => cmp k) us = 0) := by
  unfold kidsEq cmpF
  have e : (firstNZ ((((l.map fun k => cmp k)).zip us).map fun p => p.1 p.2) = 0) ↔ ((((l.map fun k => same k).zip us).all fun p => p.1 p.2) = true) := by
    rw [firstNZ_iff, List.all_eq_true, List.zip_map_left, List.zip_map_left]
    constructor
    · intro hh p hp
      obtain ⟨q, hq, rfl⟩ := List.mem_map.1 hp
      have := hh (cmp q.1 q.2) (List.mem_map.2 ⟨_, List.mem_map.2 ⟨q, hq, rfl⟩, rfl⟩)
      have hm := List.of_mem_zip (show (q.1, q.2) ∈ l.zip us from hq)
      show same q.1 q.2 = true
      rw [h _ hm.1 _ hm.2]
      exact decide_eq_true this
    · intro hh c hc
      obtain ⟨p, hp, rfl⟩ := List.mem_map.1 hc
      obtain ⟨q, hq, rfl⟩ := List.mem_map.1 hp
      have := hh _ (List.mem_map.2 ⟨q, hq, rfl⟩)
      have hm := List.of_mem_zip (show (q.1, q.2) ∈ l.zip us from hq)
      have h2 : same q.1 q.2 = true := this
      rw [h _ hm.1 _ hm.2] at h2
      exact of_decide_eq_true h2
  simp only [List.length_map] at *
  rw [Bool.eq_iff_iff, Bool.and_eq_true, decide_eq_true_iff, decide_eq_true_iff, ← e]
  by_cases h0 : firstNZ ((((l.map fun k => cmp k)).zip us).map fun p => p.1 p.2) = 0
  · rw [if_pos h0]
    by_cases hl : l.length = us.length
    · rw [hl, cmpInt_self]; simp [h0]
    · have := cmpInt_ne (x := (l.length : Int)) (y := (us.length : Int)) (by omega)
      simp [hl, h0]
      simpa using this
  · rw [if_neg h0]; simp [h0]

/-- Such as may be, with numbers in bounds. -/
def Good (T : VT) : Prop := hasT wrongT T = false ∧ T.Every fun o => o.x < 2 ^ 256
theorem Good.kid {o : Own} {l : List VT} (h : Good (.mk o l)) {t : VT} (ht : t ∈ l) : Good t := ⟨(hasT_false h.1).2 t ht, h.2.mem ht⟩
theorem Good.own {o : Own} {l : List VT} (h : Good (.mk o l)) : ownB o l.length = true := by
  have := (hasT_false h.1).1
  unfold wrongT at this
  simpa using this
theorem eqO_parts {k : Int} {g : Bool} {a0 a1 a2 a3 b : Int} {s : ByteArray} {m n k' : Int} {h : Bool} {b0 b1 b2 b3 b' : Int} {s' : ByteArray} {m' n' : Int} :
    eqO k g a0 a1 a2 a3 b s m n k' h b0 b1 b2 b3 b' s' m' n' = true ↔ k = k' ∧ eq5 g a0 a1 a2 a3 h b0 b1 b2 b3 = true ∧ b = b' ∧ s.toList = s'.toList ∧ m = m' ∧ n = n' := by
  simp [eqO]
theorem eq5_zero {g : Bool} {x : Nat} (hx : x < 2 ^ 256) (h : eq5 g (lb 0 x) (lb 1 x) (lb 2 x) (lb 3 x) false 0 0 0 0 = true) : g = false ∧ x = 0 := by
  have := eq5_int g false x 0 hx (by decide)
  simp only [lb_zero] at this
  rw [this] at h
  exact of_decide_eq_true h
theorem out_facts {o : Own} {n : Nat} (hx : o.x < 2 ^ 256) (h : outB o n = true) :
    (o.kind ≠ 3 → o.g = false ∧ o.x = 0) ∧ (o.kind ≠ 2 → o.kind ≠ 4 → o.bits = 0) ∧ (o.kind ≠ 5 → o.kind ≠ 6 → o.text.toList = []) ∧ (o.kind ≠ 8 → o.keys = []) ∧ (o.kind ≠ 7 → o.kind ≠ 8 → n = 0) := by
  have hnil : (⟨#[]⟩ : ByteArray).toList = [] := by first | rfl | decide | kernel_rfl | simp [ByteArray.toList, ByteArray.toList.loop]
  unfold outB at h
  simp only at h
  by_cases h1 : o.kind = 2 ∨ o.kind = 4
  · rw [if_pos h1] at h
    obtain ⟨_, a, b, c, d, e⟩ := eqO_parts.1 h
    exact ⟨fun _ => eq5_zero hx a, fun _ _ => by omega, fun _ _ => by rw [c, hnil], fun _ => List.eq_nil_of_length_eq_zero (by omega), fun _ _ => by omega⟩
  rw [if_neg h1] at h
  by_cases h2 : o.kind = 3
  · rw [if_pos h2] at h
    obtain ⟨_, a, b, c, d, e⟩ := eqO_parts.1 h
    exact ⟨fun h => absurd h2 h, fun _ _ => b, fun _ _ => by rw [c, hnil], fun _ => List.eq_nil_of_length_eq_zero (by omega), fun _ _ => by omega⟩
  rw [if_neg h2] at h
  by_cases h3 : o.kind = 5 ∨ o.kind = 6
  · rw [if_pos h3] at h
    obtain ⟨_, a, b, c, d, e⟩ := eqO_parts.1 h
    exact ⟨fun _ => eq5_zero hx a, fun _ _ => b, fun _ _ => by omega, fun _ => List.eq_nil_of_length_eq_zero (by omega), fun _ _ => by omega⟩
  rw [if_neg h3] at h
  by_cases h4 : o.kind = 7
  · rw [if_pos h4] at h
    obtain ⟨_, a, b, c, d, e⟩ := eqO_parts.1 h
    exact ⟨fun _ => eq5_zero hx a, fun _ _ => b, fun _ _ => by rw [c, hnil], fun _ => List.eq_nil_of_length_eq_zero (by omega), fun _ _ => by omega⟩
  rw [if_neg h4] at h
  by_cases h5 : o.kind = 8
  · rw [if_pos h5] at h
    obtain ⟨_, a, b, c, d, e⟩ := eqO_parts.1 h
    exact ⟨fun _ => eq5_zero hx a, fun _ _ => b, fun _ _ => by rw [c, hnil], fun h => absurd h5 h, fun _ h => absurd h5 h⟩
  rw [if_neg h5] at h
  obtain ⟨_, a, b, c, d, e⟩ := eqO_parts.1 h
  exact ⟨fun _ => eq5_zero hx a, fun _ _ => b, fun _ _ => by rw [c, hnil], fun _ => List.eq_nil_of_length_eq_zero (by omega), fun _ _ => by omega⟩
theorem own_kind {o : Own} {n : Nat} (h : ownB o n = true) : o.kind = 1 ∨ o.kind = 2 ∨ o.kind = 3 ∨ o.kind = 4 ∨ o.kind = 5 ∨ o.kind = 6 ∨ o.kind = 7 ∨ o.kind = 8 := by
  have h2 : restB o n = true := by unfold ownB at h; rw [Bool.and_eq_true] at h; exact h.2
  unfold restB at h2
  split at h2; · omega
  split at h2; · omega
  split at h2; · omega
  split at h2; · omega
  split at h2; · omega
  split at h2; · omega
  cases h2
theorem own_okI {o : Own} {n : Nat} (h : ownB o n = true) (hx : o.x < 2 ^ 256) (h3 : o.kind = 3) : ¬ (o.g = true ∧ o.x = 0) := by
  have h2 : restB o n = true := by unfold ownB at h; rw [Bool.and_eq_true] at h; exact h.2
  unfold restB at h2
  rw [if_neg (by omega), if_neg (by omega), if_pos h3] at h2
  unfold okI at h2
  have := eq5_int o.g true o.x 0 hx (by decide)
  simp only [lb_zero] at this
  rw [this] at h2
  intro h0
  rw [decide_eq_true h0] at h2
  cases h2
theorem cmpv_int (x y : Int) : cmpv x y = Lib.compareInt x y := by
  unfold cmpv Lib.compareInt
  by_cases h1 : x < y
  · rw [if_pos h1, if_pos h1]
  · rw [if_neg h1, if_neg h1]
    by_cases h2 : x = y
    · rw [if_pos h2, if_neg (by omega)]
    · rw [if_neg h2, if_pos (by omega)]
theorem cmpInt_zero {x y : Int} (h : Lib.compareInt x y = 0) : x = y := by
  by_cases hh : x = y
  · exact hh
  · have := cmpInt_ne hh; simp [h] at this
theorem cmpI_inj {g h : Bool} {x y : Nat} (h1 : ¬ (g = true ∧ x = 0)) (h2 : ¬ (h = true ∧ y = 0)) (e : cmpI g x = cmpI h y) : g = h ∧ x = y := by
  cases g <;> cases h <;> simp [cmpI] at * <;> omega

/-- A value's code: values compare as their codes do. -/
def codeO (kd b i m : Int) (S K F : List Int) : List Int := kd :: (if kd = 2 ∨ kd = 4 then [b] else if kd = 3 then [i] else if kd = 5 ∨ kd = 6 then S else if kd = 7 then F else if kd = 8 then m :: (K ++ F) else [])
def code : VT → List Int
  | .mk o l => codeO o.kind o.bits (cmpI o.g o.x) (o.keys.length : Int) (codeS o.text) (codeKs o.keys) (codeL (l.map fun k => code k))
theorem cmp_code : ∀ (T U : VT), Good T → Good U → ∀ r r', lexc (code T ++ r) (code U ++ r') = ord (cmpT T U) (lexc r r') := by
  intro T
  induction T using VT.ind with
  | h o l ih =>
    intro U hT hU r r'
    obtain ⟨o', us⟩ := U
    have hl := fun r r' => code_l code cmpT l us r r' (fun t ht u hu r r' => ih t ht u (hT.kid ht) (hU.kid hu) r r')
    have o1 := own_okI hT.own hT.2.own
    have o2 := own_okI hU.own hU.2.own
    rw [code, code, cmpT]
    simp only [VT.o_mk, VT.kids_mk]
    obtain ⟨kd, g, x, b, s, la, lc, ka, kc, ks⟩ := o
    obtain ⟨kd', g', x', b', s', la', lc', ka', kc', ks'⟩ := o'
    simp only at o1 o2 ⊢
    unfold codeO
    rw [List.cons_append, List.cons_append, lexc_cons]
    unfold cmpO
    by_cases hk : kd = kd'
    · subst hk
      rw [cmpInt_self, ord_zero, if_pos rfl]
      by_cases h2 : kd = 2 ∨ kd = 4
      · rw [if_pos h2, if_pos h2, if_pos h2]; exact lexc_cons _ _ _ _
      rw [if_neg h2, if_neg h2, if_neg h2]
      by_cases h3 : kd = 3
      · rw [if_pos h3, if_pos h3, if_pos h3]
        unfold cmpW
        rw [if_neg (fun e => e.elim (o1 h3) (o2 h3)), cmpv_int]
        exact lexc_cons _ _ _ _
      rw [if_neg h3, if_neg h3, if_neg h3]
      by_cases h5 : kd = 5 ∨ kd = 6
      · rw [if_pos h5, if_pos h5, if_pos h5]; exact code_s _ _ _ _
      rw [if_neg h5, if_neg h5, if_neg h5]
      by_cases h7 : kd = 7
      · rw [if_pos h7, if_pos h7, if_pos h7]; exact hl _ _
      rw [if_neg h7, if_neg h7, if_neg h7]
      by_cases h8 : kd = 8
      · rw [if_pos h8, if_pos h8, if_pos h8, List.cons_append, List.cons_append, lexc_cons]
        by_cases hn : ks.length = ks'.length
        · rw [if_pos hn, hn, cmpInt_self, ord_zero, List.append_assoc, List.append_assoc, code_ks _ _ _ _ hn, hl, ← ord_ord]
          rfl
        · rw [if_neg hn]
          have := bne_iff_ne.1 (cmpInt_ne (x := (ks.length : Int)) (y := (ks'.length : Int)) (by omega))
          rw [ord_ne this, ord_ne this]
      rw [if_neg h8, if_neg h8, if_neg h8]; rfl
    · rw [if_neg hk]
      have := bne_iff_ne.1 (cmpInt_ne hk)
      rw [ord_ne this, ord_ne this]
theorem cmp_is {T U : VT} (hT : Good T) (hU : Good U) : cmpT T U = lexc (code T) (code U) := by
  have h := cmp_code T U hT hU [] []
  rw [List.append_nil, List.append_nil] at h
  rw [h]
  show _ = ord _ 0
  unfold ord
  split
  · assumption
  · rfl
/-- The same, and 0. -/
theorem same_zero : ∀ (T U : VT), Good T → Good U → sameT T U = decide (cmpT T U = 0) := by
  intro T
  induction T using VT.ind with
  | h o l ih =>
    intro U hT hU
    obtain ⟨o', us⟩ := U
    have hl := kids_zero sameT cmpT l us (fun t ht u hu => ih t ht u (hT.kid ht) (hU.kid hu))
    have o1 := own_okI hT.own hT.2.own
    have o2 := own_okI hU.own hU.2.own
    have kk := own_kind hT.own
    have x1 := hT.2.own
    have x2 := hU.2.own
    obtain ⟨p1, p2, p3, p4, p5⟩ := out_facts x1 (by have := hT.own; unfold ownB at this; rw [Bool.and_eq_true] at this; exact this.1)
    obtain ⟨q1, q2, q3, q4, q5⟩ := out_facts x2 (by have := hU.own; unfold ownB at this; rw [Bool.and_eq_true] at this; exact this.1)
    refine Bool.eq_iff_iff.2 (Iff.trans ?_ decide_eq_true_iff.symm)
    rw [sameT, cmpT]
    simp only [VT.o_mk, VT.kids_mk]
    rw [hl]
    obtain ⟨kd, g, x, b, s, la, lc, ka, kc, ks⟩ := o
    obtain ⟨kd', g', x', b', s', la', lc', ka', kc', ks'⟩ := o'
    simp only at *
    have hE := eq5_int g g' x x' x1 x2
    rw [Bool.and_eq_true, Bool.and_eq_true, eqO_parts, hE, decide_eq_true_iff, decide_eq_true_iff]
    unfold cmpO
    by_cases hk : ¬ kd = kd'
    · rw [if_neg hk]
      have := bne_iff_ne.1 (cmpInt_ne hk)
      constructor
      · rintro ⟨⟨h, _⟩, _⟩; exact absurd h hk
      · intro h; exact absurd h this
    have hk' := Classical.not_not.1 hk
    subst hk'
    clear hk
    rw [if_pos rfl]
    have nk : kd ≠ 8 → keysEq ks ks' = true := fun h => by rw [p4 h, q4 h]; rfl
    have nl : kd ≠ 7 → kd ≠ 8 → cmpF (l.map fun k => cmpT k) us = 0 := fun h h' => by
      rw [List.eq_nil_of_length_eq_zero (p5 h h'), List.eq_nil_of_length_eq_zero (q5 h h')]; rfl
    by_cases h2 : kd = 2 ∨ kd = 4
    · rw [if_pos h2]
      obtain ⟨rfl, rfl⟩ := p1 (by omega)
      obtain ⟨rfl, rfl⟩ := q1 (by omega)
      constructor
      · rintro ⟨⟨_, _, h, _⟩, _⟩; rw [h, cmpInt_self]
      · intro h
        exact ⟨⟨rfl, ⟨rfl, rfl⟩, cmpInt_zero h, by rw [p3 (by omega) (by omega), q3 (by omega) (by omega)], by rw [p4 (by omega), q4 (by omega)], by rw [p5 (by omega) (by omega), q5 (by omega) (by omega)]⟩, nk (by omega), nl (by omega) (by omega)⟩
    rw [if_neg h2]
    by_cases h3 : kd = 3
    · rw [if_pos h3]
      unfold cmpW
      rw [if_neg (fun e => e.elim (o1 h3) (o2 h3)), cmpv_int]
      constructor
      · rintro ⟨⟨_, ⟨rfl, rfl⟩, _⟩, _⟩; rw [cmpInt_self]
      · intro h
        exact ⟨⟨rfl, cmpI_inj (o1 h3) (o2 h3) (cmpInt_zero h), by rw [p2 (by omega) (by omega), q2 (by omega) (by omega)], by rw [p3 (by omega) (by omega), q3 (by omega) (by omega)], by rw [p4 (by omega), q4 (by omega)], by rw [p5 (by omega) (by omega), q5 (by omega) (by omega)]⟩, nk (by omega), nl (by omega) (by omega)⟩
    rw [if_neg h3]
    obtain ⟨rfl, rfl⟩ := p1 (by omega)
    obtain ⟨rfl, rfl⟩ := q1 (by omega)
    obtain rfl := p2 (by omega) (by omega)
    obtain rfl := q2 (by omega) (by omega)
    by_cases h5 : kd = 5 ∨ kd = 6
    · rw [if_pos h5]
      constructor
      · rintro ⟨⟨_, _, _, h, _⟩, _⟩; exact (cmpB_zero _ _).2 h
      · intro h
        exact ⟨⟨rfl, ⟨rfl, rfl⟩, rfl, (cmpB_zero _ _).1 h, by rw [p4 (by omega), q4 (by omega)], by rw [p5 (by omega) (by omega), q5 (by omega) (by omega)]⟩, nk (by omega), nl (by omega) (by omega)⟩
    rw [if_neg h5]
    have ht : s.toList = s'.toList := by rw [p3 (by omega) (by omega), q3 (by omega) (by omega)]
    have len : cmpF (l.map fun k => cmpT k) us = 0 → l.length = us.length := fun h => by
      have : kidsEq (l.map fun k => sameT k) us = true := by rw [hl]; exact decide_eq_true h
      unfold kidsEq at this
      rw [Bool.and_eq_true, decide_eq_true_iff, List.length_map] at this
      exact this.1
    by_cases h7 : kd = 7
    · rw [if_pos h7]
      constructor
      · rintro ⟨_, _, h⟩; exact h
      · intro h
        exact ⟨⟨rfl, ⟨rfl, rfl⟩, rfl, ht, by rw [p4 (by omega), q4 (by omega)], by rw [len h]⟩, nk (by omega), h⟩
    rw [if_neg h7]
    by_cases h8 : kd = 8
    · rw [if_pos h8]
      by_cases hn : ks.length = ks'.length
      · rw [if_pos hn, keys_zero _ _ hn, decide_eq_true_iff]
        constructor
        · rintro ⟨_, h, h'⟩; rw [if_pos h, h']
        · intro h
          split at h
          · rename_i h0
            exact ⟨⟨rfl, ⟨rfl, rfl⟩, rfl, ht, by rw [hn], by rw [len h]⟩, h0, h⟩
          · rename_i h0; exact absurd h h0
      · rw [if_neg hn]
        constructor
        · rintro ⟨⟨_, _, _, _, h, _⟩, _⟩; omega
        · intro h
          have := cmpInt_zero h
          omega
    rw [if_neg h8]
    constructor
    · intro _; rfl
    · intro _
      exact ⟨⟨rfl, ⟨rfl, rfl⟩, rfl, ht, by rw [p4 (by omega), q4 (by omega)], by rw [p5 (by omega) (by omega), q5 (by omega) (by omega)]⟩, nk (by omega), nl (by omega) (by omega)⟩
end Go.Proofs.YtfaaagmjmljhiaaGreatDoor
end
