/-
  DyMath DyTrim DyRead DyExp DyMore DyTimes DyWhole DyParse DyScale, one behind the other: a claim holds at most 60 files.
-/
import Derived.Test.YtfaaagmjmljhiaaGreatDoorRows
import Derived.WalkKit
import Derived.Shelf.Strings.SlTrimAscii
import Derived.Shelf.Strings.Trim
import Derived.Test.YtfaaagmjmljhiaaGreatDoorShelf
import Derived.WalkSpells
import Derived.WalkLawsBesides
import Derived.Lib.Hide
import Derived.LoopTactic
import Derived.Deep.Cut
import Derived.Deep.DeepCutAuto
import Derived.RowKit3
import Derived.Laws.Rows
import Derived.Outline
import Derived.Test.YtfaaagmjmljhiaaGreatDoorGD
import Derived.Test.YtfaaagmjmljhiaaGreatDoorNatMul
import Derived.Test.YtfaaagmjmljhiaaGreatDoorIntBase
import Derived.Test.YtfaaagmjmljhiaaGreatDoorTextsA
import Derived.Test.YtfaaagmjmljhiaaGreatDoorGF
section
namespace Go.Proofs.YtfaaagmjmljhiaaGreatDoor

/-- Bytes as a text. -/
def str (l : List UInt8) : ByteArray := ⟨l.toArray⟩
theorem str_data (l : List UInt8) : (str l).data.toList = l := by simp [str]
theorem str_size (l : List UInt8) : (str l).size = l.length := by
  show l.toArray.size = _
  simp
theorem str_eta (s : ByteArray) : str s.data.toList = s := by
  apply ByteArray.ext
  simp [str]
theorem str_ext {a b : ByteArray} (h : a.data.toList = b.data.toList) : a = b := by
  rw [← str_eta a, ← str_eta b, h]
theorem str_take (l : List UInt8) (k : Nat) : (str l).extract 0 k = str (l.take k) := by
  apply str_ext
  rw [str_data, ByteArray.data_extract, Array.toList_extract, str_data, List.extract_eq_take_drop, List.drop_zero, Nat.sub_zero]
theorem str_drop (l : List UInt8) (k : Nat) : (str l).extract k (str l).size = str (l.drop k) := by
  apply str_ext
  rw [str_data, ByteArray.data_extract, Array.toList_extract, str_data, List.extract_eq_take_drop, str_size, List.take_of_length_le (by rw [List.length_drop]; exact Nat.le_refl _)]
theorem str_app (a b : List UInt8) : str a ++ str b = str (a ++ b) := by
  apply str_ext
  rw [ByteArray.data_append, Array.toList_append, str_data, str_data, str_data]
theorem str_toList (l : List UInt8) : (str l).toList = l := by rw [ByteArray.toList_eq, str_data]

def dfig (b : UInt8) : Bool := decide (48 ≤ b.toNat ∧ b.toNat ≤ 57)
def figs (l : List UInt8) : List UInt8 := l.takeWhile dfig
def rst (l : List UInt8) : List UInt8 := l.dropWhile dfig
theorem figs_rst (l : List UInt8) : figs l ++ rst l = l := List.takeWhile_append_dropWhile
theorem figs_all (l : List UInt8) : ∀ b ∈ figs l, dfig b = true := fun b hb => by
  unfold figs at hb
  induction l with
  | nil => cases hb
  | cons c t ih =>
    rw [List.takeWhile_cons] at hb
    split at hb
    · rcases List.mem_cons.1 hb with rfl | h
      · assumption
      · exact ih h
    · cases hb
theorem figs_len (l : List UInt8) : (figs l).length + (rst l).length = l.length := by rw [← List.length_append, figs_rst]
theorem figs_take (l : List UInt8) : l.take (l.length - (rst l).length) = figs l := by
  have h := figs_len l
  have e := figs_rst l
  have h2 : l.length - (rst l).length = (figs l).length := by omega
  rw [h2]
  generalize figs l = a at e
  generalize rst l = b at e
  rw [← e, List.take_left]
theorem dfig_bounds {b : UInt8} (h : dfig b = true) : 48 ≤ b.toNat ∧ b.toNat ≤ 57 := by unfold dfig at h; exact of_decide_eq_true h
/-- A point and what stands behind it. -/
def bhd : List UInt8 → List UInt8 × List UInt8 × Bool
  | 46 :: t => (figs t, rst t, !(figs t).isEmpty)
  | l => ([], l, true)
def szs (n : Nat) : List UInt8 → Nat
  | [] => n
  | b :: t => szs (min (10 * n + (b.toNat - 48)) 10000) t
theorem szs_le : ∀ (l : List UInt8) (n : Nat), n ≤ 10000 → szs n l ≤ 10000
  | [], _, h => h
  | _ :: t, _, _ => szs_le t _ (by omega)
/-- A sign ahead of an exponent's digits. -/
def dsgn : List UInt8 → Bool × List UInt8
  | 45 :: t => (true, t)
  | 43 :: t => (false, t)
  | l => (false, l)
def expo : List UInt8 → Option Int
  | [] => some 0
  | c :: t =>
    if c = 101 ∨ c = 69 then
      if figs (dsgn t).2 = [] ∨ rst (dsgn t).2 ≠ [] then none
      else some (if (dsgn t).1 then -(szs 0 (figs (dsgn t).2) : Int) else (szs 0 (figs (dsgn t).2) : Int))
    else none
/-- A minus sign ahead. -/
def mns : List UInt8 → Bool × List UInt8
  | 45 :: t => (true, t)
  | l => (false, l)
def tr0 (l : List UInt8) : List UInt8 := (l.reverse.dropWhile (· == 48)).reverse
def tl0 (l : List UInt8) : List UInt8 := l.dropWhile (· == 48)
/-- What read answers: a sign, digits, a power of ten. -/
def rd (l : List UInt8) : Option (Bool × List UInt8 × Int) :=
  let a := figs (mns l).2
  let r := rst (mns l).2
  if a = [] ∨ (1 < a.length ∧ a.take 1 = [48]) then none
  else if (bhd r).2.2 = false then none
  else match expo (bhd r).2.1 with
    | none => none
    | some e => some ((mns l).1, tl0 (tr0 (a ++ (bhd r).1)), e + a.length - (tr0 (a ++ (bhd r).1)).length)
end Go.Proofs.YtfaaagmjmljhiaaGreatDoor
end
section
namespace Go.Proofs.YtfaaagmjmljhiaaGreatDoor
open Go.RowKit Go.Shelf

def Tryz.renTrim161 : Ren := ⟨fun | 161 => 139 | 231 => 164 | 227 => 165 | 233 => 166 | 235 => 167 | 228 => 182 | 197 => 183 | 151 => 184 | 260 => 188 | 152 => 189 | 137 => 199 | 119 => 200 | 224 => 201 | 225 => 202 | 217 => 207 | 266 => 209 | n => n, fun | 9 => 9 | 4 => 4 | 3 => 3 | 5 => 5 | 117 => 191 | 116 => 190 | 0 => 0 | 124 => 194 | 105 => 155 | 21 => 21 | 119 => 221 | 46 => 41 | 139 => 224 | 138 => 223 | n => n, fun | 3 => 3 | 4 => 4 | n => n⟩
set_option maxRecDepth 100000 in
theorem Tryz.laysTrim161 : Lays.n161 Tryz.prog Tryz.renTrim161 := { mixed := by kernel_rfl, f119 := by kernel_rfl, f137 := by kernel_rfl, f151 := by kernel_rfl, f152 := by kernel_rfl, f161 := by kernel_rfl, f197 := by kernel_rfl, f217 := by kernel_rfl, f224 := by kernel_rfl, f225 := by kernel_rfl, f227 := by kernel_rfl, f228 := by kernel_rfl, f231 := by kernel_rfl, f233 := by kernel_rfl, f235 := by kernel_rfl, f260 := by kernel_rfl, f266 := by kernel_rfl, t0 := by kernel_rfl, a0 := fun _ => by kernel_rfl, z0 := fun _ => by kernel_rfl, v0 := fun _ => by kernel_rfl, t3 := by kernel_rfl, a3 := fun _ => by kernel_rfl, z3 := fun _ => by kernel_rfl, v3 := fun _ => by kernel_rfl, t4 := by kernel_rfl, a4 := fun _ => by kernel_rfl, z4 := fun _ => by kernel_rfl, v4 := fun _ => by kernel_rfl, t5 := by kernel_rfl, a5 := fun _ => by kernel_rfl, z5 := fun _ => by kernel_rfl, v5 := fun _ => by kernel_rfl, t9 := by kernel_rfl, a9 := fun _ => by kernel_rfl, z9 := fun _ => by kernel_rfl, v9 := fun _ => by kernel_rfl, t21 := by kernel_rfl, a21 := fun _ => by kernel_rfl, z21 := fun _ => by kernel_rfl, v21 := fun _ => by kernel_rfl, t46 := by kernel_rfl, a46 := fun _ => by kernel_rfl, z46 := fun _ => by kernel_rfl, v46 := fun _ => by kernel_rfl, t105 := by kernel_rfl, a105 := fun _ => by kernel_rfl, z105 := fun _ => by kernel_rfl, v105 := fun _ => by kernel_rfl, t116 := by kernel_rfl, a116 := fun _ => by kernel_rfl, z116 := fun _ => by kernel_rfl, t117 := by kernel_rfl, a117 := fun _ => by kernel_rfl, z117 := fun _ => by kernel_rfl, v117 := fun _ => by kernel_rfl, t119 := by kernel_rfl, a119 := fun _ => by kernel_rfl, z119 := fun _ => by kernel_rfl, t124 := by kernel_rfl, a124 := fun _ => by kernel_rfl, z124 := fun _ => by kernel_rfl, v124 := fun _ => by kernel_rfl, t138 := by kernel_rfl, a138 := fun _ => by kernel_rfl, z138 := fun _ => by kernel_rfl, v138 := fun _ => by kernel_rfl, t139 := by kernel_rfl, a139 := fun _ => by kernel_rfl, z139 := fun _ => by kernel_rfl, v139 := fun _ => by kernel_rfl, g3 := by kernel_rfl, g4 := by kernel_rfl }
theorem trim_left (s cutset : ByteArray) (w : World) (hcs : cutset.size < 4294967281) (hascii : ∀ (j : Nat) b, cutset.data.toList[j]? = some b → b.toNat < 128) :
    Calls Tryz.prog 139 #[.string s, .string cutset] w fun e w' => e = .returned (.string ⟨(Lib.trimLeftS s.data.toList cutset.data.toList).toArray⟩) ∧ Below w.heap.size w w' := Any.strings_TrimLeft_laid Tryz.laysTrim161 (by kernel_rfl) s cutset w hcs hascii
theorem trim_left_one (s : ByteArray) (c : UInt8) (hc : c.toNat < 128) (w : World) :
    Calls Tryz.prog 139 #[.string s, .string ⟨#[c]⟩] w fun e w' => e = .returned (.string ⟨(Lib.trimLeftB s.data.toList c).toArray⟩) ∧ w' = w := Any.strings_TrimLeft_one Tryz.laysTrim161 s c hc w
end Go.Proofs.YtfaaagmjmljhiaaGreatDoor
end
section
namespace Go.Proofs.YtfaaagmjmljhiaaGreatDoor
open Go.RowKit Go.Shelf

theorem dbtr {w X Y : World} (h : Below w.heap.size w X) (k : Below X.heap.size X Y) : Below w.heap.size w Y := h.trans (k.mono h.size)
theorem pre_one (l : List UInt8) (c : UInt8) : Lib.hasPrefix l [c] = true ↔ ∃ t, l = c :: t := by
  unfold Lib.hasPrefix
  cases l with
  | nil => exact ⟨fun h => by simp [List.isPrefixOf] at h, fun ⟨t, h⟩ => by cases h⟩
  | cons d t =>
    simp only [List.isPrefixOf, Bool.and_true, beq_iff_eq]
    exact ⟨fun h => ⟨t, by rw [h]⟩, fun ⟨u, h⟩ => by cases h; rfl⟩
theorem set_figs (b : UInt8) : ([48, 49, 50, 51, 52, 53, 54, 55, 56, 57] : List UInt8).contains b = dfig b := by
  have key : ∀ x : Fin 256, ([48, 49, 50, 51, 52, 53, 54, 55, 56, 57] : List UInt8).contains (UInt8.ofNat x.val) = decide (48 ≤ x.val ∧ x.val ≤ 57) := by decide +kernel
  have h := key ⟨b.toNat, UInt8.toNat_lt b⟩
  simp only [UInt8.ofNat_toNat] at h
  exact h
theorem trim_figs (l : List UInt8) (w : World) :
    Calls Tryz.prog 139 #[.string (str l), .string ⟨#[48, 49, 50, 51, 52, 53, 54, 55, 56, 57]⟩] w fun e w' => e = .returned (.string (str (rst l))) ∧ Below w.heap.size w w' := by
  have h := trim_left (str l) ⟨#[48, 49, 50, 51, 52, 53, 54, 55, 56, 57]⟩ w (by decide) (ascii_of_all (by decide))
  rw [str_data] at h
  have e : Lib.trimLeftS l (ByteArray.mk #[48, 49, 50, 51, 52, 53, 54, 55, 56, 57]).data.toList = rst l := by
    unfold Lib.trimLeftS rst
    congr 1
    funext b
    exact set_figs b
  rw [e] at h
  exact h
theorem bhd_no {l : List UInt8} (h : ¬ ∃ t, l = 46 :: t) : bhd l = ([], l, true) := by
  unfold bhd
  split
  · exact absurd ⟨_, rfl⟩ h
  · rfl
theorem bhd_yes (t : List UInt8) : bhd (46 :: t) = (figs t, rst t, !(figs t).isEmpty) := rfl
theorem str_empty {l : List UInt8} : (str l).toList.isEmpty = l.isEmpty := by rw [str_toList]
theorem byte_at (l : List UInt8) (k : Nat) (h : k < (str l).size) : (str l)[k] = l[k]'(by rw [str_size] at h; exact h) := by
  show (str l).data[k]'h = _
  simp [str]
theorem szs_snoc : ∀ (l : List UInt8) (n : Nat) (b : UInt8), szs n (l ++ [b]) = min (10 * szs n l + (b.toNat - 48)) 10000
  | [], _, _ => rfl
  | _ :: t, _, b => szs_snoc t _ b
end Go.Proofs.YtfaaagmjmljhiaaGreatDoor
end
section
namespace Go.Proofs.YtfaaagmjmljhiaaGreatDoor
open Go.RowKit Go.Shelf

theorem cons_facts (c : UInt8) (t : List UInt8) : (str (c :: t)).toList.isEmpty = false ∧ ¬ (str (c :: t)).toList = [] ∧ 0 < (str (c :: t)).size ∧ (∀ h : 0 < (str (c :: t)).size, (str (c :: t))[0]'h = c) ∧ (str (c :: t)).extract 1 (str (c :: t)).size = str t := by
  refine ⟨by rw [str_toList]; rfl, by rw [str_toList]; simp, by rw [str_size]; simp, fun h => byte_at (c :: t) 0 h, ?_⟩
  rw [str_drop]
  rfl
/-- What exponent answers. -/
def eans (o : Option Int) : Value := match o with | none => .tuple #[.int .i64 0, .bool false] | some e => .tuple #[.int .i64 e, .bool true]
theorem same_below {f : FuncId} {l : Array Value} {w : World} {r : Ending} (h : Calls Tryz.prog f l w fun e w' => e = r ∧ w' = w) : Calls Tryz.prog f l w fun e w' => e = r ∧ Below w.heap.size w w' :=
  h.mono (fun _ _ ⟨a, b⟩ => ⟨a, by rw [b]; exact Below.refl _ _⟩)
theorem dsgn_no {t : List UInt8} (h : ¬ ∃ u, t = 45 :: u) (h2 : ¬ ∃ u, t = 43 :: u) : dsgn t = (false, t) := by
  unfold dsgn
  split
  · exact absurd ⟨_, rfl⟩ h
  · exact absurd ⟨_, rfl⟩ h2
  · rfl
end Go.Proofs.YtfaaagmjmljhiaaGreatDoor
end
section
namespace Go.Proofs.YtfaaagmjmljhiaaGreatDoor
open Go.RowKit Go.Shelf

theorem dbsc3 {w X : World} (h : Below w.heap.size w X) {b : Nat} (hb : w.heap.size ≤ b) (v0 v1 v2 : Value) :
    Below w.heap.size w (((X.setCell ⟨b, 0, none⟩ v0).setCell ⟨b, 1, none⟩ v1).setCell ⟨b, 2, none⟩ v2) :=
  ((h.setCell hb v0).setCell hb v1).setCell hb v2
/-- A decimal's value. -/
abbrev DV (g : Bool) (s : ByteArray) (p : Int) : Value := .agg #[.bool g, .string s, .int .i64 p]
/-- The figures ahead are no number's: none, or a nought ahead of others. -/
def Ahead (A : ByteArray) : Prop := A.toList.isEmpty = false ∧ ¬ A.toList = [] ∧ ((A.size : Int) ≤ 1 ∨ (1 < (A.size : Int) ∧ ((A.extract 0 1).toList == [48]) = false))
theorem ahead_of {a : List UInt8} (h0 : a ≠ []) (h1 : ¬ (1 < a.length ∧ a.take 1 = [48])) : Ahead (str a) := by
  refine ⟨by rw [str_toList]; cases a with | nil => exact absurd rfl h0 | cons => rfl, by rw [str_toList]; exact h0, ?_⟩
  rw [str_size]
  by_cases hl : 1 < a.length
  · refine Or.inr ⟨by omega, ?_⟩
    rw [str_take, str_toList, beq_eq_false_iff_ne]
    exact fun h => h1 ⟨hl, h⟩
  · exact Or.inl (by omega)
theorem mns_no {l : List UInt8} (h : ¬ ∃ t, l = 45 :: t) : mns l = (false, l) := by
  unfold mns
  split
  · exact absurd ⟨_, rfl⟩ h
  · rfl
theorem mns_len (l : List UInt8) : (mns l).2.length ≤ l.length := by
  by_cases h : ∃ t, l = 45 :: t
  · obtain ⟨t, rfl⟩ := h
    show t.length ≤ _
    simp
  · rw [mns_no h]; exact Nat.le_refl _
theorem bhd_len (l : List UInt8) : (bhd l).1.length + (bhd l).2.1.length ≤ l.length := by
  by_cases h : ∃ t, l = 46 :: t
  · obtain ⟨t, rfl⟩ := h
    have := figs_len t
    show (figs t).length + (rst t).length ≤ _
    simp only [List.length_cons]
    omega
  · rw [bhd_no h]; simp
theorem tr0_len (l : List UInt8) : (tr0 l).length ≤ l.length := by
  unfold tr0
  rw [List.length_reverse]
  exact Nat.le_trans (List.dropWhile_sublist _).length_le (by rw [List.length_reverse]; exact Nat.le_refl _)
theorem expo_le {l : List UInt8} {e : Int} (h : expo l = some e) : -10000 ≤ e ∧ e ≤ 10000 := by
  cases l with
  | nil => simp only [expo] at h; cases h; omega
  | cons c t =>
    have hz := szs_le (figs (dsgn t).2) 0 (by decide)
    have key : expo (c :: t) = if c = 101 ∨ c = 69 then (if figs (dsgn t).2 = [] ∨ rst (dsgn t).2 ≠ [] then none else some (if (dsgn t).1 then -(szs 0 (figs (dsgn t).2) : Int) else (szs 0 (figs (dsgn t).2) : Int))) else none := rfl
    rw [key] at h
    split at h
    · split at h
      · cases h
      · generalize szs 0 (figs (dsgn t).2) = z at *
        injection h with h
        split at h <;> omega
    · cases h
/-- What read answers. -/
def rans (o : Option (Bool × List UInt8 × Int)) : Value := match o with | none => .tuple #[DV false ⟨#[]⟩ 0, .bool false] | some (g, d, p) => .tuple #[DV g (str d) p, .bool true]
end Go.Proofs.YtfaaagmjmljhiaaGreatDoor
end
section
namespace Go.Proofs.YtfaaagmjmljhiaaGreatDoor
open Go.RowKit Go.Shelf

/-- What times answers. -/
def tms (x f p : Nat) : Value := if x * f ^ p < 2 ^ 256 then .tuple #[N4 (x * f ^ p), .bool true] else .tuple #[N4 0, .bool false]
theorem pow_grow {x f k p : Nat} (hf : 1 ≤ f) (hk : k ≤ p) : x * f ^ k ≤ x * f ^ p := Nat.mul_le_mul_left _ (Nat.pow_le_pow_right hf hk)
/-- How far times has come. -/
def TAt (x f p k y : Nat) (o : Bool) : Prop := (o = true ∧ k ≤ p ∧ y = x * f ^ k ∧ y < 2 ^ 256) ∨ (o = false ∧ y = 0 ∧ ¬ x * f ^ p < 2 ^ 256)
theorem TAt.end_ {x f p k y : Nat} {o : Bool} (h : TAt x f p k y o) (he : o = false ∨ p ≤ k) : tms x f p = .tuple #[N4 y, .bool o] := by
  unfold tms
  rcases h with ⟨rfl, h2, rfl, h4⟩ | ⟨rfl, rfl, h4⟩
  · rcases he with he | he
    · cases he
    · obtain rfl : k = p := by omega
      rw [if_pos h4]
  · rw [if_neg h4]
/-- What withoutFives answers. -/
def wfv (x p : Nat) : Value := if 5 ^ p ∣ x then .tuple #[N4 (x / 5 ^ p), .bool true] else .tuple #[N4 0, .bool false]
end Go.Proofs.YtfaaagmjmljhiaaGreatDoor
end
section
namespace Go.Proofs.YtfaaagmjmljhiaaGreatDoor
open Go.RowKit Go.Shelf

end Go.Proofs.YtfaaagmjmljhiaaGreatDoor
end
section
namespace Go.Proofs.YtfaaagmjmljhiaaGreatDoor
open Go.RowKit Go.Shelf

/-- A block that holds a value of the model. -/
def RowV (W : World) (b : Nat) (v0 v1 v2 v3 v4 v5 v6 v7 v8 v9 : Value) : Prop := W.heap[b]? = some (.cells #[v0, v1, v2, v3, v4, v5, v6, v7, v8, v9] 33 (0, 0))
theorem RowV.lt {W : World} {b : Nat} {v0 v1 v2 v3 v4 v5 v6 v7 v8 v9 : Value} (h : RowV W b v0 v1 v2 v3 v4 v5 v6 v7 v8 v9) : b < W.heap.size := by
  unfold RowV at h
  exact (Array.getElem?_eq_some_iff.1 h).1
theorem RowV.new (W : World) (v0 v1 v2 v3 v4 v5 v6 v7 v8 v9 : Value) : RowV (W.alloc (.cells #[v0, v1, v2, v3, v4, v5, v6, v7, v8, v9] 33)) W.heap.size v0 v1 v2 v3 v4 v5 v6 v7 v8 v9 := heap_alloc_new W _
theorem RowV.keep {W W' : World} {b : Nat} {v0 v1 v2 v3 v4 v5 v6 v7 v8 v9 : Value} (hb : Below W.heap.size W W') (h : RowV W b v0 v1 v2 v3 v4 v5 v6 v7 v8 v9) : RowV W' b v0 v1 v2 v3 v4 v5 v6 v7 v8 v9 := (hb.block b h.lt).trans h
theorem RowV.alloc {W : World} {b : Nat} {v0 v1 v2 v3 v4 v5 v6 v7 v8 v9 : Value} (h : RowV W b v0 v1 v2 v3 v4 v5 v6 v7 v8 v9) (o : Obj) : RowV (W.alloc o) b v0 v1 v2 v3 v4 v5 v6 v7 v8 v9 := (Below.heap_alloc W o b h.lt).trans h
theorem RowV.parts {W : World} {b : Nat} {v0 v1 v2 v3 v4 v5 v6 v7 v8 v9 : Value} (h : RowV W b v0 v1 v2 v3 v4 v5 v6 v7 v8 v9) :
    W.cell? ⟨b, 0, none⟩ = some v0 ∧ W.cell? ⟨b, 1, none⟩ = some v1 ∧ W.cell? ⟨b, 2, none⟩ = some v2 ∧ W.cell? ⟨b, 3, none⟩ = some v3 ∧ W.cell? ⟨b, 4, none⟩ = some v4 ∧ W.cell? ⟨b, 5, none⟩ = some v5 ∧ W.cell? ⟨b, 6, none⟩ = some v6 ∧ W.cell? ⟨b, 7, none⟩ = some v7 ∧ W.cell? ⟨b, 8, none⟩ = some v8 ∧ W.cell? ⟨b, 9, none⟩ = some v9 :=
  ⟨cell_of_row W b 0 _ _ _ h, cell_of_row W b 1 _ _ _ h, cell_of_row W b 2 _ _ _ h, cell_of_row W b 3 _ _ _ h, cell_of_row W b 4 _ _ _ h, cell_of_row W b 5 _ _ _ h, cell_of_row W b 6 _ _ _ h, cell_of_row W b 7 _ _ _ h, cell_of_row W b 8 _ _ _ h, cell_of_row W b 9 _ _ _ h⟩
theorem RowV.free {W : World} {b : Nat} {v0 v1 v2 v3 v4 v5 v6 v7 v8 v9 : Value} (h : RowV W b v0 v1 v2 v3 v4 v5 v6 v7 v8 v9) :
    W.frozen? ⟨b, 0, none⟩ = false ∧ W.frozen? ⟨b, 1, none⟩ = false ∧ W.frozen? ⟨b, 2, none⟩ = false ∧ W.frozen? ⟨b, 3, none⟩ = false ∧ W.frozen? ⟨b, 4, none⟩ = false ∧ W.frozen? ⟨b, 5, none⟩ = false ∧ W.frozen? ⟨b, 6, none⟩ = false ∧ W.frozen? ⟨b, 7, none⟩ = false ∧ W.frozen? ⟨b, 8, none⟩ = false ∧ W.frozen? ⟨b, 9, none⟩ = false :=
  ⟨frozen_of_row W b 0 _ _ h, frozen_of_row W b 1 _ _ h, frozen_of_row W b 2 _ _ h, frozen_of_row W b 3 _ _ h, frozen_of_row W b 4 _ _ h, frozen_of_row W b 5 _ _ h, frozen_of_row W b 6 _ _ h, frozen_of_row W b 7 _ _ h, frozen_of_row W b 8 _ _ h, frozen_of_row W b 9 _ _ h⟩
theorem RowV.setAll {W : World} {b : Nat} {v0 v1 v2 v3 v4 v5 v6 v7 v8 v9 : Value} (h : RowV W b v0 v1 v2 v3 v4 v5 v6 v7 v8 v9) (u0 u1 u2 u3 u4 u5 u6 u7 u8 u9 : Value) :
    RowV (((((((((((W).setCell ⟨b, 0, none⟩ u0).setCell ⟨b, 1, none⟩ u1).setCell ⟨b, 2, none⟩ u2).setCell ⟨b, 3, none⟩ u3).setCell ⟨b, 4, none⟩ u4).setCell ⟨b, 5, none⟩ u5).setCell ⟨b, 6, none⟩ u6).setCell ⟨b, 7, none⟩ u7).setCell ⟨b, 8, none⟩ u8).setCell ⟨b, 9, none⟩ u9) b u0 u1 u2 u3 u4 u5 u6 u7 u8 u9 := by
  unfold RowV at *
  have h0 := heap_setCell_same _ b 0 _ _ u0 h
  have h1 := heap_setCell_same _ b 1 _ _ u1 h0
  have h2 := heap_setCell_same _ b 2 _ _ u2 h1
  have h3 := heap_setCell_same _ b 3 _ _ u3 h2
  have h4 := heap_setCell_same _ b 4 _ _ u4 h3
  have h5 := heap_setCell_same _ b 5 _ _ u5 h4
  have h6 := heap_setCell_same _ b 6 _ _ u6 h5
  have h7 := heap_setCell_same _ b 7 _ _ u7 h6
  have h8 := heap_setCell_same _ b 8 _ _ u8 h7
  have h9 := heap_setCell_same _ b 9 _ _ u9 h8
  simpa using h9
theorem bsc10 {w X : World} (h : Below w.heap.size w X) {b : Nat} (hb : w.heap.size ≤ b) (u0 u1 u2 u3 u4 u5 u6 u7 u8 u9 : Value) :
    Below w.heap.size w (((((((((((X).setCell ⟨b, 0, none⟩ u0).setCell ⟨b, 1, none⟩ u1).setCell ⟨b, 2, none⟩ u2).setCell ⟨b, 3, none⟩ u3).setCell ⟨b, 4, none⟩ u4).setCell ⟨b, 5, none⟩ u5).setCell ⟨b, 6, none⟩ u6).setCell ⟨b, 7, none⟩ u7).setCell ⟨b, 8, none⟩ u8).setCell ⟨b, 9, none⟩ u9) :=
  bsc (bsc (bsc (bsc (bsc (bsc (bsc (bsc (bsc (bsc h hb _) hb _) hb _) hb _) hb _) hb _) hb _) hb _) hb _) hb _
/-- A value of the model: a kind, a whole number, bits. -/
abbrev VV (k : Int) (g : Bool) (x : Nat) (y : Int) : Value := .agg #[.int .i64 k, .bool g, .int .u64 (lb 0 x), .int .u64 (lb 1 x), .int .u64 (lb 2 x), .int .u64 (lb 3 x), .int .u64 y, .string ⟨#[]⟩, .slice none 0 0, .slice none 0 0]
abbrev VZ : Value := .agg #[.int .i64 0, .bool false, .int .u64 0, .int .u64 0, .int .u64 0, .int .u64 0, .int .u64 0, .string ⟨#[]⟩, .slice none 0 0, .slice none 0 0]
end Go.Proofs.YtfaaagmjmljhiaaGreatDoor
end
section
namespace Go.Proofs.YtfaaagmjmljhiaaGreatDoor
open Go.RowKit Go.Shelf Ieee

/-- A product of a normal word by a power of two's word. -/
theorem mul_two (g : Bool) {d : Nat} {t p : Int} (h : d ≠ 0) (hl : d.log2 ≤ 52) (h0 : -1022 ≤ t + (d.log2 : Nat)) (h1 : t + (d.log2 : Nat) ≤ 1023) (p0 : -1022 ≤ p) (p1 : p ≤ 1023) (h2 : -1022 ≤ t + p + (d.log2 : Nat)) (h3 : t + p + (d.log2 : Nat) ≤ 1023) :
    double.mul (g.toNat * 9223372036854775808 + nr d t) ((p + 1023).toNat * 4503599627370496) = some (g.toNat * 9223372036854775808 + nr d (t + p)) := by
  obtain ⟨s1, s2, s3, s4, s5⟩ := nr_spec h hl h0 h1
  have hI : INF = 9218868437227405312 := rfl
  have r1 := read_word double g (nr d t) (by rw [dbl_inf]; omega) (by rw [dbl_sign]; omega)
  have r2 := read_word double false ((p + 1023).toNat * 4503599627370496) (by rw [dbl_inf]; omega) (by rw [dbl_sign]; omega)
  rw [dbl_word, s2, s3] at r1
  rw [dbl_word, Bool.toNat_false, Nat.zero_mul, Nat.zero_add] at r2
  have m2 : mg double ((p + 1023).toNat * 4503599627370496) = 2 ^ 52 := by
    unfold mg
    rw [dbl_binade, if_neg (by omega), show (2 : Nat) ^ 52 = 4503599627370496 from by decide]
    omega
  have l2 : pl double ((p + 1023).toNat * 4503599627370496) = p - 52 := by
    unfold pl
    rw [dbl_binade, dbl_least, if_neg (by omega)]
    omega
  rw [m2, l2] at r2
  unfold Format.mul
  rw [r1, r2]
  show some (double.write (.number (g ^^ false) (d * 2 ^ (52 - d.log2) * 2 ^ 52) (t - ((52 - d.log2 : Nat) : Int) + (p - 52)))) = _
  rw [Bool.xor_false]
  show some (double.nearest g (d * 2 ^ (52 - d.log2) * 2 ^ 52) (t - ((52 - d.log2 : Nat) : Int) + (p - 52))) = _
  have e1 : d * 2 ^ (52 - d.log2) * 2 ^ 52 = d * 2 ^ (52 - d.log2 + 52) := by rw [Nat.mul_assoc, Nat.pow_add]
  have e2 : t - ((52 - d.log2 : Nat) : Int) + (p - 52) = (t + p) - ((52 - d.log2 + 52 : Nat) : Int) := by omega
  rw [e1, e2, near_scale, near_dbl g h hl h2 h3]
end Go.Proofs.YtfaaagmjmljhiaaGreatDoor
end
