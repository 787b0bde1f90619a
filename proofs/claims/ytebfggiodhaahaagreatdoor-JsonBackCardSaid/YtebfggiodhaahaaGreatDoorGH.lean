/-
  DyMath DyTrim DyRead DyExp DyMore DyTimes DyWhole DyParse DyScale, one behind the other: a claim holds at most 60 files.
-/
import Derived.Test.YtebfggiodhaahaaGreatDoorRows
import Derived.WalkKit
import Derived.Shelf.Strings.SlTrimAscii
import Derived.Shelf.Strings.Trim
import Derived.Test.YtebfggiodhaahaaGreatDoorShelf
import Derived.WalkSpells
import Derived.WalkLawsBesides
import Derived.Lib.Hide
import Derived.LoopTactic
import Derived.Deep.Cut
import Derived.Deep.DeepCutAuto
import Derived.RowKit3
import Derived.Laws.Rows
import Derived.Outline
import Derived.Test.YtebfggiodhaahaaGreatDoorGD
import Derived.Test.YtebfggiodhaahaaGreatDoorGA
import Derived.Test.YtebfggiodhaahaaGreatDoorTextsA
import Derived.Test.YtebfggiodhaahaaGreatDoorGF
section
namespace Go.Proofs.YtebfggiodhaahaaGreatDoor

/-- Bytes as a text. -/
def str (l : List UInt8) : ByteArray := ⟨l.toArray⟩
theorem str_data (l : List UInt8) : (str l).data.toList = l := by simp [str]
theorem str_size (l : List UInt8) : (str l).size = l.length := by
  show l.toArray.size = _
  simp
theorem str_eta (s : ByteArray) : str s.data.toList = s := by
  apply ByteArray.ext
  simp [str]
theorem str_ext {a b : ByteArray} (h : a.data.toList = b.data.toList) : a = b := by
  rw [← str_eta a, ← str_eta b, h]
theorem str_take (l : List UInt8) (k : Nat) : (str l).extract 0 k = str (l.take k) := by
  apply str_ext
  rw [str_data, ByteArray.data_extract, Array.toList_extract, str_data, List.extract_eq_take_drop, List.drop_zero, Nat.sub_zero]
theorem str_drop (l : List UInt8) (k : Nat) : (str l).extract k (str l).size = str (l.drop k) := by
  apply str_ext
  rw [str_data, ByteArray.data_extract, Array.toList_extract, str_data, List.extract_eq_take_drop, str_size, List.take_of_length_le (by rw [List.length_drop]; exact Nat.le_refl _)]
theorem str_app (a b : List UInt8) : str a ++ str b = str (a ++ b) := by
  apply str_ext
  rw [ByteArray.data_append, Array.toList_append, str_data, str_data, str_data]
theorem str_toList (l : List UInt8) : (str l).toList = l := by rw [ByteArray.toList_eq, str_data]

def dfig (b : UInt8) : Bool := decide (48 ≤ b.toNat ∧ b.toNat ≤ 57)
def figs (l : List UInt8) : List UInt8 := l.takeWhile dfig
def rst (l : List UInt8) : List UInt8 := l.dropWhile dfig
theorem figs_rst (l : List UInt8) : figs l ++ rst l = l := List.takeWhile_append_dropWhile
theorem figs_all (l : List UInt8) : ∀ b ∈ figs l, dfig b = true := fun b hb => by
  unfold figs at hb
  induction l with
  | nil => cases hb
  | cons c t ih =>
    rw [List.takeWhile_cons] at hb
    split at hb
    · rcases List.mem_cons.1 hb with rfl | h
      · assumption
      · exact ih h
    · cases hb
theorem figs_len (l : List UInt8) : (figs l).length + (rst l).length = l.length := by rw [← List.length_append, figs_rst]
theorem figs_take (l : List UInt8) : l.take (l.length - (rst l).length) = figs l := by
  have h := figs_len l
  have e := figs_rst l
  have h2 : l.length - (rst l).length = (figs l).length := by omega
  rw [h2]
  generalize figs l = a at e
  generalize rst l = b at e
  rw [← e, List.take_left]
theorem dfig_bounds {b : UInt8} (h : dfig b = true) : 48 ≤ b.toNat ∧ b.toNat ≤ 57 := by unfold dfig at h; exact of_decide_eq_true h
/-- A point and what stands behind it. -/
def bhd : List UInt8 → List UInt8 × List UInt8 × Bool
  | 46 :: t => (figs t, rst t, !(figs t).isEmpty)
  | l => ([], l, true)
def szs (n : Nat) : List UInt8 → Nat
  | [] => n
  | b :: t => szs (min (10 * n + (b.toNat - 48)) 10000) t
theorem szs_le : ∀ (l : List UInt8) (n : Nat), n ≤ 10000 → szs n l ≤ 10000
  | [], _, h => h
  | _ :: t, _, _ => szs_le t _ (by omega)
/-- A sign ahead of an exponent's digits. -/
def dsgn : List UInt8 → Bool × List UInt8
  | 45 :: t => (true, t)
  | 43 :: t => (false, t)
  | l => (false, l)
def expo : List UInt8 → Option Int
  | [] => some 0
  | c :: t =>
    if c = 101 ∨ c = 69 then
      if figs (dsgn t).2 = [] ∨ rst (dsgn t).2 ≠ [] then none
      else some (if (dsgn t).1 then -(szs 0 (figs (dsgn t).2) : Int) else (szs 0 (figs (dsgn t).2) : Int))
    else none
/-- A minus sign ahead. -/
def mns : List UInt8 → Bool × List UInt8
  | 45 :: t => (true, t)
  | l => (false, l)
def tr0 (l : List UInt8) : List UInt8 := (l.reverse.dropWhile (· == 48)).reverse
def tl0 (l : List UInt8) : List UInt8 := l.dropWhile (· == 48)
/-- What read answers: a sign, digits, a power of ten. -/
def rd (l : List UInt8) : Option (Bool × List UInt8 × Int) :=
  let a := figs (mns l).2
  let r := rst (mns l).2
  if a = [] ∨ (1 < a.length ∧ a.take 1 = [48]) then none
  else if (bhd r).2.2 = false then none
  else match expo (bhd r).2.1 with
    | none => none
    | some e => some ((mns l).1, tl0 (tr0 (a ++ (bhd r).1)), e + a.length - (tr0 (a ++ (bhd r).1)).length)
end Go.Proofs.YtebfggiodhaahaaGreatDoor
end
section
namespace Go.Proofs.YtebfggiodhaahaaGreatDoor
open Go.RowKit Go.Shelf

def Tryz.renTrim161 : Ren := ⟨fun | 161 => 42 | 231 => 79 | 227 => 80 | 233 => 81 | 235 => 82 | 228 => 128 | 197 => 129 | 151 => 130 | 260 => 174 | 152 => 175 | 137 => 113 | 119 => 198 | 224 => 199 | 225 => 200 | 217 => 157 | 266 => 186 | n => n, fun | 9 => 9 | 4 => 4 | 3 => 3 | 5 => 5 | 117 => 101 | 116 => 100 | 0 => 0 | 124 => 104 | 105 => 143 | 21 => 21 | 119 => 208 | 46 => 136 | 139 => 211 | 138 => 210 | n => n, fun | 3 => 4 | 4 => 5 | n => n⟩
set_option maxRecDepth 100000 in
theorem Tryz.laysTrim161 : Lays.n161 Tryz.prog Tryz.renTrim161 := { mixed := by kernel_rfl, f119 := by kernel_rfl, f137 := by kernel_rfl, f151 := by kernel_rfl, f152 := by kernel_rfl, f161 := by kernel_rfl, f197 := by kernel_rfl, f217 := by kernel_rfl, f224 := by kernel_rfl, f225 := by kernel_rfl, f227 := by kernel_rfl, f228 := by kernel_rfl, f231 := by kernel_rfl, f233 := by kernel_rfl, f235 := by kernel_rfl, f260 := by kernel_rfl, f266 := by kernel_rfl, t0 := by kernel_rfl, a0 := fun _ => by kernel_rfl, z0 := fun _ => by kernel_rfl, v0 := fun _ => by kernel_rfl, t3 := by kernel_rfl, a3 := fun _ => by kernel_rfl, z3 := fun _ => by kernel_rfl, v3 := fun _ => by kernel_rfl, t4 := by kernel_rfl, a4 := fun _ => by kernel_rfl, z4 := fun _ => by kernel_rfl, v4 := fun _ => by kernel_rfl, t5 := by kernel_rfl, a5 := fun _ => by kernel_rfl, z5 := fun _ => by kernel_rfl, v5 := fun _ => by kernel_rfl, t9 := by kernel_rfl, a9 := fun _ => by kernel_rfl, z9 := fun _ => by kernel_rfl, v9 := fun _ => by kernel_rfl, t21 := by kernel_rfl, a21 := fun _ => by kernel_rfl, z21 := fun _ => by kernel_rfl, v21 := fun _ => by kernel_rfl, t46 := by kernel_rfl, a46 := fun _ => by kernel_rfl, z46 := fun _ => by kernel_rfl, v46 := fun _ => by kernel_rfl, t105 := by kernel_rfl, a105 := fun _ => by kernel_rfl, z105 := fun _ => by kernel_rfl, v105 := fun _ => by kernel_rfl, t116 := by kernel_rfl, a116 := fun _ => by kernel_rfl, z116 := fun _ => by kernel_rfl, t117 := by kernel_rfl, a117 := fun _ => by kernel_rfl, z117 := fun _ => by kernel_rfl, v117 := fun _ => by kernel_rfl, t119 := by kernel_rfl, a119 := fun _ => by kernel_rfl, z119 := fun _ => by kernel_rfl, t124 := by kernel_rfl, a124 := fun _ => by kernel_rfl, z124 := fun _ => by kernel_rfl, v124 := fun _ => by kernel_rfl, t138 := by kernel_rfl, a138 := fun _ => by kernel_rfl, z138 := fun _ => by kernel_rfl, v138 := fun _ => by kernel_rfl, t139 := by kernel_rfl, a139 := fun _ => by kernel_rfl, z139 := fun _ => by kernel_rfl, v139 := fun _ => by kernel_rfl, g3 := by kernel_rfl, g4 := by kernel_rfl }
def Tryz.renTrim162 : Ren := ⟨fun | 162 => 170 | 232 => 192 | 227 => 80 | 234 => 193 | 236 => 194 | 228 => 128 | 271 => 218 | 151 => 130 | 120 => 233 | 197 => 129 | 152 => 175 | 260 => 174 | 137 => 113 | 119 => 198 | 224 => 199 | 225 => 200 | 217 => 157 | 266 => 186 | n => n, fun | 9 => 9 | 4 => 4 | 3 => 3 | 5 => 5 | 117 => 101 | 116 => 100 | 0 => 0 | 124 => 104 | 21 => 21 | 105 => 143 | 46 => 136 | 119 => 208 | 139 => 211 | 138 => 210 | n => n, fun | 3 => 4 | 4 => 5 | n => n⟩
set_option maxRecDepth 100000 in
theorem Tryz.laysTrim162 : Lays.n162 Tryz.prog Tryz.renTrim162 := { mixed := by kernel_rfl, f119 := by kernel_rfl, f120 := by kernel_rfl, f137 := by kernel_rfl, f151 := by kernel_rfl, f152 := by kernel_rfl, f162 := by kernel_rfl, f197 := by kernel_rfl, f217 := by kernel_rfl, f224 := by kernel_rfl, f225 := by kernel_rfl, f227 := by kernel_rfl, f228 := by kernel_rfl, f232 := by kernel_rfl, f234 := by kernel_rfl, f236 := by kernel_rfl, f260 := by kernel_rfl, f266 := by kernel_rfl, f271 := by kernel_rfl, t0 := by kernel_rfl, a0 := fun _ => by kernel_rfl, z0 := fun _ => by kernel_rfl, v0 := fun _ => by kernel_rfl, t3 := by kernel_rfl, a3 := fun _ => by kernel_rfl, z3 := fun _ => by kernel_rfl, v3 := fun _ => by kernel_rfl, t4 := by kernel_rfl, a4 := fun _ => by kernel_rfl, z4 := fun _ => by kernel_rfl, v4 := fun _ => by kernel_rfl, t5 := by kernel_rfl, a5 := fun _ => by kernel_rfl, z5 := fun _ => by kernel_rfl, v5 := fun _ => by kernel_rfl, t9 := by kernel_rfl, a9 := fun _ => by kernel_rfl, z9 := fun _ => by kernel_rfl, v9 := fun _ => by kernel_rfl, t21 := by kernel_rfl, a21 := fun _ => by kernel_rfl, z21 := fun _ => by kernel_rfl, v21 := fun _ => by kernel_rfl, t46 := by kernel_rfl, a46 := fun _ => by kernel_rfl, z46 := fun _ => by kernel_rfl, v46 := fun _ => by kernel_rfl, t105 := by kernel_rfl, a105 := fun _ => by kernel_rfl, z105 := fun _ => by kernel_rfl, v105 := fun _ => by kernel_rfl, t116 := by kernel_rfl, a116 := fun _ => by kernel_rfl, z116 := fun _ => by kernel_rfl, t117 := by kernel_rfl, a117 := fun _ => by kernel_rfl, z117 := fun _ => by kernel_rfl, v117 := fun _ => by kernel_rfl, t119 := by kernel_rfl, a119 := fun _ => by kernel_rfl, z119 := fun _ => by kernel_rfl, t124 := by kernel_rfl, a124 := fun _ => by kernel_rfl, z124 := fun _ => by kernel_rfl, v124 := fun _ => by kernel_rfl, t138 := by kernel_rfl, a138 := fun _ => by kernel_rfl, z138 := fun _ => by kernel_rfl, v138 := fun _ => by kernel_rfl, t139 := by kernel_rfl, a139 := fun _ => by kernel_rfl, z139 := fun _ => by kernel_rfl, v139 := fun _ => by kernel_rfl, g3 := by kernel_rfl, g4 := by kernel_rfl }
theorem trim_left (s cutset : ByteArray) (w : World) (hcs : cutset.size < 4294967281) (hascii : ∀ (j : Nat) b, cutset.data.toList[j]? = some b → b.toNat < 128) :
    Calls Tryz.prog 42 #[.string s, .string cutset] w fun e w' => e = .returned (.string ⟨(Lib.trimLeftS s.data.toList cutset.data.toList).toArray⟩) ∧ Below w.heap.size w w' := Any.strings_TrimLeft_laid Tryz.laysTrim161 (by kernel_rfl) s cutset w hcs hascii
theorem trim_left_one (s : ByteArray) (c : UInt8) (hc : c.toNat < 128) (w : World) :
    Calls Tryz.prog 42 #[.string s, .string ⟨#[c]⟩] w fun e w' => e = .returned (.string ⟨(Lib.trimLeftB s.data.toList c).toArray⟩) ∧ w' = w := Any.strings_TrimLeft_one Tryz.laysTrim161 s c hc w
theorem trim_right_one (s : ByteArray) (c : UInt8) (hc : c.toNat < 128) (w : World) (hs : s.size ≤ 9223372036854775807) :
    Calls Tryz.prog 170 #[.string s, .string ⟨#[c]⟩] w fun e w' => e = .returned (.string ⟨(Lib.trimRightB s.data.toList c).toArray⟩) ∧ w' = w := Any.strings_TrimRight_one Tryz.laysTrim162 s c hc w hs
end Go.Proofs.YtebfggiodhaahaaGreatDoor
end
section
namespace Go.Proofs.YtebfggiodhaahaaGreatDoor
open Go.RowKit Go.Shelf

theorem dbtr {w X Y : World} (h : Below w.heap.size w X) (k : Below X.heap.size X Y) : Below w.heap.size w Y := h.trans (k.mono h.size)
theorem pre_one (l : List UInt8) (c : UInt8) : Lib.hasPrefix l [c] = true ↔ ∃ t, l = c :: t := by
  unfold Lib.hasPrefix
  cases l with
  | nil => exact ⟨fun h => by simp [List.isPrefixOf] at h, fun ⟨t, h⟩ => by cases h⟩
  | cons d t =>
    simp only [List.isPrefixOf, Bool.and_true, beq_iff_eq]
    exact ⟨fun h => ⟨t, by rw [h]⟩, fun ⟨u, h⟩ => by cases h; rfl⟩
theorem lcut_yes (c : UInt8) (t : List UInt8) (hl : (c :: t).length ≤ 140737488351232) (w : World) :
    Calls Tryz.prog 158 #[.string (str (c :: t)), .string ⟨#[c]⟩] w fun e w' => e = .returned (.tuple #[.string (str t), .bool true]) ∧ w' = w := by
  have C := fun W => Tryz.stringslite_HasPrefix (str (c :: t)) ⟨#[c]⟩ W
  have e : Lib.hasPrefix (str (c :: t)).data.toList (ByteArray.mk #[c]).data.toList = true := by rw [str_data]; exact (pre_one _ c).2 ⟨t, rfl⟩
  rw [e] at C
  have hd := Lib.hid (str_drop (c :: t) 1)
  have hs := str_size (c :: t)
  have h1 : 1 ≤ (str (c :: t)).size := by rw [hs]; simp
  have h2 : (str (c :: t)).size ≤ 140737488351232 := by rw [hs]; exact hl
  clear hs e
  generalize str (c :: t) = S at *
  have HC := Lib.hid C; clear C
  go_enter Tryz.func158, Tryz.ntmps158
  go_wp2_with (go_at_call 184; ((with_reducible refine (HC.out _).mono ?_); rintro e w' ⟨rfl, rfl⟩))
  go_ret2
  exact ⟨by have := hd.out; rw [List.drop_succ_cons, List.drop_zero] at this; rw [← this]; rfl, rfl⟩
theorem lcut_no (c : UInt8) (l : List UInt8) (h : ¬ ∃ t, l = c :: t) (w : World) :
    Calls Tryz.prog 158 #[.string (str l), .string ⟨#[c]⟩] w fun e w' => e = .returned (.tuple #[.string (str l), .bool false]) ∧ w' = w := by
  have C := fun W => Tryz.stringslite_HasPrefix (str l) ⟨#[c]⟩ W
  have e : Lib.hasPrefix (str l).data.toList (ByteArray.mk #[c]).data.toList = false := by
    rw [str_data]
    cases hp : Lib.hasPrefix l (ByteArray.mk #[c]).data.toList with
    | false => rfl
    | true => exact absurd ((pre_one l c).1 hp) h
  rw [e] at C
  have HC := Lib.hid C; clear C e
  go_enter Tryz.func158, Tryz.ntmps158
  go_wp2_with (go_at_call 184; ((with_reducible refine (HC.out _).mono ?_); rintro e w' ⟨rfl, rfl⟩))
  go_ret2
  exact ⟨rfl, rfl⟩
theorem cut_yes (c : UInt8) (t : List UInt8) (hl : (c :: t).length ≤ 140737488351232) (w : World) :
    Calls Tryz.prog 114 #[.string (str (c :: t)), .string ⟨#[c]⟩] w fun e w' => e = .returned (.tuple #[.string (str t), .bool true]) ∧ w' = w := by
  have HC := Lib.hid (fun W => lcut_yes c t hl W)
  clear hl
  go_enter Tryz.func114, Tryz.ntmps114
  go_wp2_with (go_at_call 158; ((with_reducible refine (HC.out _).mono ?_); rintro e w' ⟨rfl, rfl⟩))
  go_ret2
  exact ⟨rfl, rfl⟩
theorem cut_no (c : UInt8) (l : List UInt8) (h : ¬ ∃ t, l = c :: t) (w : World) :
    Calls Tryz.prog 114 #[.string (str l), .string ⟨#[c]⟩] w fun e w' => e = .returned (.tuple #[.string (str l), .bool false]) ∧ w' = w := by
  have HC := Lib.hid (fun W => lcut_no c l h W)
  clear h
  go_enter Tryz.func114, Tryz.ntmps114
  go_wp2_with (go_at_call 158; ((with_reducible refine (HC.out _).mono ?_); rintro e w' ⟨rfl, rfl⟩))
  go_ret2
  exact ⟨rfl, rfl⟩
theorem set_figs (b : UInt8) : ([48, 49, 50, 51, 52, 53, 54, 55, 56, 57] : List UInt8).contains b = dfig b := by
  have key : ∀ x : Fin 256, ([48, 49, 50, 51, 52, 53, 54, 55, 56, 57] : List UInt8).contains (UInt8.ofNat x.val) = decide (48 ≤ x.val ∧ x.val ≤ 57) := by decide +kernel
  have h := key ⟨b.toNat, UInt8.toNat_lt b⟩
  simp only [UInt8.ofNat_toNat] at h
  exact h
theorem trim_figs (l : List UInt8) (w : World) :
    Calls Tryz.prog 42 #[.string (str l), .string ⟨#[48, 49, 50, 51, 52, 53, 54, 55, 56, 57]⟩] w fun e w' => e = .returned (.string (str (rst l))) ∧ Below w.heap.size w w' := by
  have h := trim_left (str l) ⟨#[48, 49, 50, 51, 52, 53, 54, 55, 56, 57]⟩ w (by decide) (ascii_of_all (by decide))
  rw [str_data] at h
  have e : Lib.trimLeftS l (ByteArray.mk #[48, 49, 50, 51, 52, 53, 54, 55, 56, 57]).data.toList = rst l := by
    unfold Lib.trimLeftS rst
    congr 1
    funext b
    exact set_figs b
  rw [e] at h
  exact h
theorem figs_any (l : List UInt8) (hl : l.length ≤ 140737488351232) (w : World) :
    Calls Tryz.prog 167 #[.string (str l)] w fun e w' => e = .returned (.tuple #[.string (str (figs l)), .string (str (rst l))]) ∧ Below w.heap.size w w' := by
  have HC := Lib.hid (fun W => trim_figs l W)
  have hs := str_size l
  have hr := str_size (rst l)
  have hf := figs_len l
  have HT : Hid ((str l).extract 0 ((str l).size - (str (rst l)).size) = str (figs l)) := by rw [str_take, hs, hr, figs_take]; rfl
  have h1 : (str (rst l)).size ≤ (str l).size := by omega
  have h2 : (str l).size ≤ 140737488351232 := by omega
  clear hs hr hf hl
  generalize str (rst l) = R at *
  generalize str l = S at *
  generalize str (figs l) = G at *
  go_enter Tryz.func167, Tryz.ntmps167
  go_wp2_with (go_at_call 42; ((with_reducible refine (HC.out _).mono ?_); rintro e w1 ⟨rfl, hb⟩))
  go_ret2
  exact ⟨by rw [← HT.out]; rfl, hb⟩
theorem bhd_no {l : List UInt8} (h : ¬ ∃ t, l = 46 :: t) : bhd l = ([], l, true) := by
  unfold bhd
  split
  · exact absurd ⟨_, rfl⟩ h
  · rfl
theorem bhd_yes (t : List UInt8) : bhd (46 :: t) = (figs t, rst t, !(figs t).isEmpty) := rfl
theorem cbehind_no (l : List UInt8) (h : ¬ ∃ t, l = 46 :: t) (w : World) :
    Calls Tryz.prog 168 #[.string (str l)] w fun e w' => e = .returned (.tuple #[.string ⟨#[]⟩, .string (str l), .bool true]) ∧ Below w.heap.size w w' := by
  have HC := Lib.hid (fun W => cut_no 46 l h W)
  clear h
  go_enter Tryz.func168, Tryz.ntmps168
  go_wp2_with (go_at_call 114; ((with_reducible refine (HC.out _).mono ?_); rintro e w' ⟨rfl, rfl⟩))
  go_ret3
  exact ⟨rfl, Below.refl _ _⟩
theorem cbehind_yes (t : List UInt8) (hl : (46 :: t).length ≤ 140737488351232) (w : World) :
    Calls Tryz.prog 168 #[.string (str (46 :: t))] w fun e w' => e = .returned (.tuple #[.string (str (figs t)), .string (str (rst t)), .bool (!(figs t).isEmpty)]) ∧ Below w.heap.size w w' := by
  have HC := Lib.hid (fun W => cut_yes 46 t hl W)
  have HF := Lib.hid (fun W => figs_any t (by rw [List.length_cons] at hl; omega) W)
  clear hl
  cases hf : figs t with
  | nil =>
    rw [hf] at HF
    have e1 : (str []).toList.isEmpty = true := by decide +kernel
    have e2 : (str []).toList = [] := by decide +kernel
    generalize str [] = E at *
    go_enter Tryz.func168, Tryz.ntmps168
    go_wp2_with (first | (go_at_call 114; ((with_reducible refine (HC.out _).mono ?_); rintro e w' ⟨rfl, rfl⟩)) | (go_at_call 167; ((with_reducible refine (HF.out _).mono ?_); rintro e w1 ⟨rfl, hb⟩)))
    go_ret3
    exact ⟨rfl, hb⟩
  | cons c u =>
    rw [hf] at HF
    have e1 : (str (c :: u)).toList.isEmpty = false := by rw [str_toList]; rfl
    have e2 : ¬ (str (c :: u)).toList = [] := by rw [str_toList]; simp
    generalize str (c :: u) = E at *
    go_enter Tryz.func168, Tryz.ntmps168
    go_wp2_with (first | (go_at_call 114; ((with_reducible refine (HC.out _).mono ?_); rintro e w' ⟨rfl, rfl⟩)) | (go_at_call 167; ((with_reducible refine (HF.out _).mono ?_); rintro e w1 ⟨rfl, hb⟩)))
    go_ret3
    exact ⟨rfl, hb⟩
theorem cbehind_any (l : List UInt8) (hl : l.length ≤ 140737488351232) (w : World) :
    Calls Tryz.prog 168 #[.string (str l)] w fun e w' => e = .returned (.tuple #[.string (str (bhd l).1), .string (str (bhd l).2.1), .bool (bhd l).2.2]) ∧ Below w.heap.size w w' := by
  by_cases h : ∃ t, l = 46 :: t
  · obtain ⟨t, rfl⟩ := h
    exact cbehind_yes t hl w
  · rw [bhd_no h]
    exact cbehind_no l h w
theorem byte_at (l : List UInt8) (k : Nat) (h : k < (str l).size) : (str l)[k] = l[k]'(by rw [str_size] at h; exact h) := by
  show (str l).data[k]'h = _
  simp [str]
theorem szs_snoc : ∀ (l : List UInt8) (n : Nat) (b : UInt8), szs n (l ++ [b]) = min (10 * szs n l + (b.toNat - 48)) 10000
  | [], _, _ => rfl
  | _ :: t, _, b => szs_snoc t _ b
set_option maxHeartbeats 1000000 in
theorem size_any (l : List UInt8) (hd : ∀ b ∈ l, dfig b = true) (hl : l.length ≤ 140737488351232) (w : World) :
    Calls Tryz.prog 191 #[.string (str l)] w fun e w' => e = .returned (.int .i64 (szs 0 l : Nat)) ∧ w' = w := by
  have hs := str_size l
  obtain ⟨S, hS⟩ : ∃ S, str l = S := ⟨_, rfl⟩
  have HB : Hid (∀ k (h : k < S.size), ∃ h2 : k < l.length, S[k] = l[k]'h2 ∧ l.take (k + 1) = l.take k ++ [l[k]'h2] ∧ dfig (l[k]'h2) = true) := fun k h => by
    subst hS
    have h2 : k < l.length := by rw [← hs]; exact h
    exact ⟨h2, byte_at l k h, List.take_succ_eq_append_getElem h2, hd _ (List.getElem_mem h2)⟩
  rw [hS] at hs ⊢
  have hmax : S.size ≤ 140737488351232 := by omega
  have HT : Hid (l.take S.size = l) := by rw [hs]; exact List.take_length
  clear hS hd hl hs
  go_enter Tryz.func191, Tryz.ntmps191
  go_wp2
  go_loop [3, 7] (fun n i => ∃ k m : Nat, k ≤ S.size ∧ m ≤ 10000 ∧ i = .int .i64 (k : Nat) ∧ n = .int .i64 (m : Nat) ∧ Hid (m = szs 0 (l.take k))) (fun _ i => S.size - (intOf i).toNat)
  case atStart => exact ⟨0, 0, Nat.zero_le _, Nat.zero_le _, rfl, rfl, rfl⟩
  case round =>
    obtain ⟨k, m, hk, hm, rfl, rfl, HM⟩ := hrel
    by_cases hlt : k < S.size
    · obtain ⟨h2, e1, e2, e3⟩ := HB.out k hlt
      have hb := dfig_bounds e3
      have HM2 : Hid (min (10 * m + (S[k].toNat - 48)) 10000 = szs 0 (l.take (k + 1))) := by rw [e2, szs_snoc, ← HM.out, e1]; rfl
      rw [← e1] at hb
      obtain ⟨hb1, hb2⟩ := hb
      clear e1 e2 e3 h2 HM
      generalize hx : S[k].toNat = x at *
      have hlti : (k : Int) < (S.size : Int) := by omega
      go_wp2
      all_goals
        go_round
        case rel => exact ⟨k + 1, min (10 * m + (x - 48)) 10000, by omega, by omega, by go_num, by congr 1; omega, HM2⟩
        case measure => simp [intOf]; omega
    · obtain rfl : k = S.size := by omega
      go_wp2
      go_ret
      exact ⟨by rw [← HT.out, ← HM.out]; rfl, rfl⟩
end Go.Proofs.YtebfggiodhaahaaGreatDoor
end
section
namespace Go.Proofs.YtebfggiodhaahaaGreatDoor
open Go.RowKit Go.Shelf

theorem exp_nil (w : World) : Calls Tryz.prog 169 #[.string (str [])] w fun e w' => e = .returned (.tuple #[.int .i64 0, .bool true]) ∧ w' = w := by
  have e1 : (str []).toList.isEmpty = true := by decide +kernel
  have e2 : (str []).toList = [] := by decide +kernel
  generalize str [] = S at *
  go_enter Tryz.func169, Tryz.ntmps169
  go_wp2
  go_ret2
  exact ⟨rfl, rfl⟩
theorem cons_facts (c : UInt8) (t : List UInt8) : (str (c :: t)).toList.isEmpty = false ∧ ¬ (str (c :: t)).toList = [] ∧ 0 < (str (c :: t)).size ∧ (∀ h : 0 < (str (c :: t)).size, (str (c :: t))[0]'h = c) ∧ (str (c :: t)).extract 1 (str (c :: t)).size = str t := by
  refine ⟨by rw [str_toList]; rfl, by rw [str_toList]; simp, by rw [str_size]; simp, fun h => byte_at (c :: t) 0 h, ?_⟩
  rw [str_drop]
  rfl
theorem exp_bad (c : UInt8) (t : List UInt8) (h : ¬ (c = 101 ∨ c = 69)) (w : World) : Calls Tryz.prog 169 #[.string (str (c :: t))] w fun e w' => e = .returned (.tuple #[.int .i64 0, .bool false]) ∧ w' = w := by
  obtain ⟨e1, e2, e3, e4, _⟩ := cons_facts c t
  generalize str (c :: t) = S at *
  have e5 := e4 e3
  have h1 : ((S[0].toNat : Int) != 101) = true := by
    rw [bne_iff_ne, e5]
    intro hc
    exact h (Or.inl (UInt8.toNat_inj.1 (by show c.toNat = 101; omega)))
  have h2 : ((S[0].toNat : Int) != 69) = true := by
    rw [bne_iff_ne, e5]
    intro hc
    exact h (Or.inr (UInt8.toNat_inj.1 (by show c.toNat = 69; omega)))
  clear e4 e5
  go_enter Tryz.func169, Tryz.ntmps169
  go_wp2
  go_ret2
  exact ⟨rfl, rfl⟩
set_option maxHeartbeats 1000000 in
theorem exp_neg (c : UInt8) (t u : List UInt8) (hc : c = 101 ∨ c = 69) (hl : (c :: t).length ≤ 140737488351232) (hu : u.length ≤ 140737488351232) (w : World)
    (k1 : ∀ W, Calls Tryz.prog 114 #[.string (str t), .string ⟨#[45]⟩] W fun e w' => e = .returned (.tuple #[.string (str u), .bool true]) ∧ w' = W) :
    Calls Tryz.prog 169 #[.string (str (c :: t))] w fun e w' => e = .returned (if figs u = [] ∨ rst u ≠ [] then .tuple #[.int .i64 0, .bool false] else .tuple #[.int .i64 (-(szs 0 (figs u) : Nat) : Int), .bool true]) ∧ Below w.heap.size w w' := by
  obtain ⟨e1, e2, e3, e4, e6⟩ := cons_facts c t
  have hmax : (str (c :: t)).size ≤ 140737488351232 := by rw [str_size]; exact hl
  have k3 := fun W => figs_any u hu W
  have hfl : (figs u).length ≤ 140737488351232 := by have := figs_len u; omega
  have k4 := fun W => size_any (figs u) (figs_all u) hfl W
  have hz := szs_le (figs u) 0 (by decide)
  generalize szs 0 (figs u) = z at *
  have K1 := Lib.hid k1; have K3 := Lib.hid k3; have K4 := Lib.hid k4; clear k1 k3 k4 hl hu hfl

  generalize str (c :: t) = S at *
  have e5 := e4 e3
  have HC := Lib.hid hc
  have hor : ((S[0].toNat : Int) != 101) = false ∨ (((S[0].toNat : Int) != 101) = true ∧ ((S[0].toNat : Int) != 69) = false) := by
    rw [e5]
    rcases hc with rfl | rfl
    · exact Or.inl rfl
    · exact Or.inr ⟨rfl, rfl⟩
  clear e4 e5 hc HC
  by_cases hf : figs u = []
  · rw [if_pos (Or.inl hf)]
    rw [hf] at K3
    have f1 : (str []).toList.isEmpty = true := by decide +kernel
    have f2 : (str []).toList = [] := by decide +kernel
    clear hf
    generalize str [] = E at *
    generalize str (rst u) = R at *
    rcases hor with q | ⟨q, q2⟩
    all_goals
      go_enter Tryz.func169, Tryz.ntmps169
      go_wp2_with (first | (go_at_call 114; ((with_reducible refine (K1.out _).mono ?_); rintro e w' ⟨rfl, rfl⟩)) | (go_at_call 167; ((with_reducible refine (K3.out _).mono ?_); rintro e w1 ⟨rfl, hb⟩)) | (go_at_call 191; ((with_reducible refine (K4.out _).mono ?_); rintro e w' ⟨rfl, rfl⟩)))
      go_ret2
      exact ⟨rfl, hb⟩
  · have g1 : (str (figs u)).toList.isEmpty = false ∧ ¬ (str (figs u)).toList = [] := by
      rw [str_toList]
      exact ⟨by cases h : figs u with | nil => exact absurd h hf | cons => rfl, hf⟩
    obtain ⟨f1, f2⟩ := g1
    by_cases hr : rst u = []
    · rw [if_neg (by rintro (h | h); exact hf h; exact h hr)]
      rw [hr] at K3
      have f3 : (str []).toList.isEmpty = true := by decide +kernel
      have f4 : (str []).toList = [] := by decide +kernel
      clear hf hr
      generalize str [] = E at *
      generalize str (figs u) = F at *
      rcases hor with q | ⟨q, q2⟩
      all_goals
        go_enter Tryz.func169, Tryz.ntmps169
        go_wp2_with (first | (go_at_call 114; ((with_reducible refine (K1.out _).mono ?_); rintro e w' ⟨rfl, rfl⟩)) | (go_at_call 167; ((with_reducible refine (K3.out _).mono ?_); rintro e w1 ⟨rfl, hb⟩)) | (go_at_call 191; ((with_reducible refine (K4.out _).mono ?_); rintro e w' ⟨rfl, rfl⟩)))
        go_ret2
        exact ⟨rfl, hb⟩
    · rw [if_pos (Or.inr hr)]
      have g2 : (str (rst u)).toList.isEmpty = false ∧ ¬ (str (rst u)).toList = [] := by
        rw [str_toList]
        exact ⟨by cases h : rst u with | nil => exact absurd h hr | cons => rfl, hr⟩
      obtain ⟨f3, f4⟩ := g2
      clear hf hr
      generalize str (rst u) = R at *
      generalize str (figs u) = F at *
      rcases hor with q | ⟨q, q2⟩
      all_goals
        go_enter Tryz.func169, Tryz.ntmps169
        go_wp2_with (first | (go_at_call 114; ((with_reducible refine (K1.out _).mono ?_); rintro e w' ⟨rfl, rfl⟩)) | (go_at_call 167; ((with_reducible refine (K3.out _).mono ?_); rintro e w1 ⟨rfl, hb⟩)) | (go_at_call 191; ((with_reducible refine (K4.out _).mono ?_); rintro e w' ⟨rfl, rfl⟩)))
        go_ret2
        exact ⟨rfl, hb⟩
set_option maxHeartbeats 1000000 in
theorem exp_pos (c : UInt8) (t u : List UInt8) (hc : c = 101 ∨ c = 69) (hl : (c :: t).length ≤ 140737488351232) (hu : u.length ≤ 140737488351232) (w : World)
    (k1 : ∀ W, Calls Tryz.prog 114 #[.string (str t), .string ⟨#[45]⟩] W fun e w' => e = .returned (.tuple #[.string (str t), .bool false]) ∧ w' = W)
    (k2 : ∀ W, Calls Tryz.prog 122 #[.string (str t), .string ⟨#[43]⟩] W fun e w' => e = .returned (.string (str u)) ∧ w' = W) :
    Calls Tryz.prog 169 #[.string (str (c :: t))] w fun e w' => e = .returned (if figs u = [] ∨ rst u ≠ [] then .tuple #[.int .i64 0, .bool false] else .tuple #[.int .i64 ((szs 0 (figs u) : Nat) : Int), .bool true]) ∧ Below w.heap.size w w' := by
  obtain ⟨e1, e2, e3, e4, e6⟩ := cons_facts c t
  have hmax : (str (c :: t)).size ≤ 140737488351232 := by rw [str_size]; exact hl
  have k3 := fun W => figs_any u hu W
  have hfl : (figs u).length ≤ 140737488351232 := by have := figs_len u; omega
  have k4 := fun W => size_any (figs u) (figs_all u) hfl W
  have hz := szs_le (figs u) 0 (by decide)
  generalize szs 0 (figs u) = z at *
  have K1 := Lib.hid k1; have K3 := Lib.hid k3; have K4 := Lib.hid k4; clear k1 k3 k4 hl hu hfl
  have K2 := Lib.hid k2; clear k2
  generalize str (c :: t) = S at *
  have e5 := e4 e3
  have HC := Lib.hid hc
  have hor : ((S[0].toNat : Int) != 101) = false ∨ (((S[0].toNat : Int) != 101) = true ∧ ((S[0].toNat : Int) != 69) = false) := by
    rw [e5]
    rcases hc with rfl | rfl
    · exact Or.inl rfl
    · exact Or.inr ⟨rfl, rfl⟩
  clear e4 e5 hc HC
  by_cases hf : figs u = []
  · rw [if_pos (Or.inl hf)]
    rw [hf] at K3
    have f1 : (str []).toList.isEmpty = true := by decide +kernel
    have f2 : (str []).toList = [] := by decide +kernel
    clear hf
    generalize str [] = E at *
    generalize str (rst u) = R at *
    rcases hor with q | ⟨q, q2⟩
    all_goals
      go_enter Tryz.func169, Tryz.ntmps169
      go_wp2_with (first | (go_at_call 114; ((with_reducible refine (K1.out _).mono ?_); rintro e w' ⟨rfl, rfl⟩)) | (go_at_call 122; ((with_reducible refine (K2.out _).mono ?_); rintro e w' ⟨rfl, rfl⟩)) | (go_at_call 167; ((with_reducible refine (K3.out _).mono ?_); rintro e w1 ⟨rfl, hb⟩)) | (go_at_call 191; ((with_reducible refine (K4.out _).mono ?_); rintro e w' ⟨rfl, rfl⟩)))
      go_ret2
      exact ⟨rfl, hb⟩
  · have g1 : (str (figs u)).toList.isEmpty = false ∧ ¬ (str (figs u)).toList = [] := by
      rw [str_toList]
      exact ⟨by cases h : figs u with | nil => exact absurd h hf | cons => rfl, hf⟩
    obtain ⟨f1, f2⟩ := g1
    by_cases hr : rst u = []
    · rw [if_neg (by rintro (h | h); exact hf h; exact h hr)]
      rw [hr] at K3
      have f3 : (str []).toList.isEmpty = true := by decide +kernel
      have f4 : (str []).toList = [] := by decide +kernel
      clear hf hr
      generalize str [] = E at *
      generalize str (figs u) = F at *
      rcases hor with q | ⟨q, q2⟩
      all_goals
        go_enter Tryz.func169, Tryz.ntmps169
        go_wp2_with (first | (go_at_call 114; ((with_reducible refine (K1.out _).mono ?_); rintro e w' ⟨rfl, rfl⟩)) | (go_at_call 122; ((with_reducible refine (K2.out _).mono ?_); rintro e w' ⟨rfl, rfl⟩)) | (go_at_call 167; ((with_reducible refine (K3.out _).mono ?_); rintro e w1 ⟨rfl, hb⟩)) | (go_at_call 191; ((with_reducible refine (K4.out _).mono ?_); rintro e w' ⟨rfl, rfl⟩)))
        go_ret2
        exact ⟨rfl, hb⟩
    · rw [if_pos (Or.inr hr)]
      have g2 : (str (rst u)).toList.isEmpty = false ∧ ¬ (str (rst u)).toList = [] := by
        rw [str_toList]
        exact ⟨by cases h : rst u with | nil => exact absurd h hr | cons => rfl, hr⟩
      obtain ⟨f3, f4⟩ := g2
      clear hf hr
      generalize str (rst u) = R at *
      generalize str (figs u) = F at *
      rcases hor with q | ⟨q, q2⟩
      all_goals
        go_enter Tryz.func169, Tryz.ntmps169
        go_wp2_with (first | (go_at_call 114; ((with_reducible refine (K1.out _).mono ?_); rintro e w' ⟨rfl, rfl⟩)) | (go_at_call 122; ((with_reducible refine (K2.out _).mono ?_); rintro e w' ⟨rfl, rfl⟩)) | (go_at_call 167; ((with_reducible refine (K3.out _).mono ?_); rintro e w1 ⟨rfl, hb⟩)) | (go_at_call 191; ((with_reducible refine (K4.out _).mono ?_); rintro e w' ⟨rfl, rfl⟩)))
        go_ret2
        exact ⟨rfl, hb⟩
/-- What exponent answers. -/
def eans (o : Option Int) : Value := match o with | none => .tuple #[.int .i64 0, .bool false] | some e => .tuple #[.int .i64 e, .bool true]
theorem same_below {f : FuncId} {l : Array Value} {w : World} {r : Ending} (h : Calls Tryz.prog f l w fun e w' => e = r ∧ w' = w) : Calls Tryz.prog f l w fun e w' => e = r ∧ Below w.heap.size w w' :=
  h.mono (fun _ _ ⟨a, b⟩ => ⟨a, by rw [b]; exact Below.refl _ _⟩)
theorem trimp_yes (t : List UInt8) (w : World) : Calls Tryz.prog 122 #[.string (str (43 :: t)), .string ⟨#[43]⟩] w fun e w' => e = .returned (.string (str t)) ∧ w' = w := by
  have h := Tryz.strings_TrimPrefix (str (43 :: t)) ⟨#[43]⟩ w
  have e : Lib.trimPrefix (str (43 :: t)).data.toList (ByteArray.mk #[43]).data.toList = t := by
    rw [str_data]
    unfold Lib.trimPrefix
    rw [if_pos ((pre_one _ 43).2 ⟨t, rfl⟩)]
    rfl
  rw [e] at h
  exact h
theorem trimp_no (t : List UInt8) (hn : ¬ ∃ u, t = 43 :: u) (w : World) : Calls Tryz.prog 122 #[.string (str t), .string ⟨#[43]⟩] w fun e w' => e = .returned (.string (str t)) ∧ w' = w := by
  have h := Tryz.strings_TrimPrefix (str t) ⟨#[43]⟩ w
  have e : Lib.trimPrefix (str t).data.toList (ByteArray.mk #[43]).data.toList = t := by
    rw [str_data]
    unfold Lib.trimPrefix
    rw [if_neg (fun hp => hn ((pre_one t 43).1 hp))]
  rw [e] at h
  exact h
theorem dsgn_no {t : List UInt8} (h : ¬ ∃ u, t = 45 :: u) (h2 : ¬ ∃ u, t = 43 :: u) : dsgn t = (false, t) := by
  unfold dsgn
  split
  · exact absurd ⟨_, rfl⟩ h
  · exact absurd ⟨_, rfl⟩ h2
  · rfl
theorem exponent_any (l : List UInt8) (hl : l.length ≤ 140737488351232) (w : World) :
    Calls Tryz.prog 169 #[.string (str l)] w fun e w' => e = .returned (eans (expo l)) ∧ Below w.heap.size w w' := by
  cases l with
  | nil => exact same_below (exp_nil w)
  | cons c t =>
    by_cases hc : c = 101 ∨ c = 69
    · have ht : t.length ≤ 140737488351232 := by rw [List.length_cons] at hl; omega
      have key : expo (c :: t) = if figs (dsgn t).2 = [] ∨ rst (dsgn t).2 ≠ [] then none else some (if (dsgn t).1 then -(szs 0 (figs (dsgn t).2) : Int) else (szs 0 (figs (dsgn t).2) : Int)) := by
        show (if c = 101 ∨ c = 69 then _ else _) = _
        rw [if_pos hc]
      rw [key]
      by_cases h1 : ∃ u, t = 45 :: u
      · obtain ⟨u, rfl⟩ := h1
        have h := exp_neg c (45 :: u) u hc hl (by rw [List.length_cons] at ht; omega) w (fun W => cut_yes 45 u ht W)
        show Calls _ _ _ _ fun e w' => e = .returned (eans (if figs u = [] ∨ rst u ≠ [] then none else some (-(szs 0 (figs u) : Int)))) ∧ _
        by_cases hb : figs u = [] ∨ rst u ≠ []
        · rw [if_pos hb] at h ⊢; exact h
        · rw [if_neg hb] at h ⊢; exact h
      · by_cases h2 : ∃ u, t = 43 :: u
        · obtain ⟨u, rfl⟩ := h2
          have h := exp_pos c (43 :: u) u hc hl (by rw [List.length_cons] at ht; omega) w (fun W => cut_no 45 _ h1 W) (fun W => trimp_yes u W)
          show Calls _ _ _ _ fun e w' => e = .returned (eans (if figs u = [] ∨ rst u ≠ [] then none else some (szs 0 (figs u) : Int))) ∧ _
          by_cases hb : figs u = [] ∨ rst u ≠ []
          · rw [if_pos hb] at h ⊢; exact h
          · rw [if_neg hb] at h ⊢; exact h
        · have h := exp_pos c t t hc hl ht w (fun W => cut_no 45 _ h1 W) (fun W => trimp_no t h2 W)
          rw [dsgn_no h1 h2]
          show Calls _ _ _ _ fun e w' => e = .returned (eans (if figs t = [] ∨ rst t ≠ [] then none else some (szs 0 (figs t) : Int))) ∧ _
          by_cases hb : figs t = [] ∨ rst t ≠ []
          · rw [if_pos hb] at h ⊢; exact h
          · rw [if_neg hb] at h ⊢; exact h
    · have e : expo (c :: t) = none := by
        show (if c = 101 ∨ c = 69 then _ else _) = _
        rw [if_neg hc]
      rw [e]
      exact same_below (exp_bad c t hc w)
end Go.Proofs.YtebfggiodhaahaaGreatDoor
end
section
namespace Go.Proofs.YtebfggiodhaahaaGreatDoor
open Go.RowKit Go.Shelf

/-- A block that holds a decimal. -/
def RowD (W : World) (b : Nat) (v0 v1 v2 : Value) : Prop := W.heap[b]? = some (.cells #[v0, v1, v2] 155 (0, 0))
theorem RowD.lt {W : World} {b : Nat} {v0 v1 v2 : Value} (h : RowD W b v0 v1 v2) : b < W.heap.size := by
  unfold RowD at h
  exact (Array.getElem?_eq_some_iff.1 h).1
theorem RowD.new (W : World) (v0 v1 v2 : Value) : RowD (W.alloc (.cells #[v0, v1, v2] 155)) W.heap.size v0 v1 v2 := heap_alloc_new W _
theorem RowD.keep {W W' : World} {b : Nat} {v0 v1 v2 : Value} (hb : Below W.heap.size W W') (h : RowD W b v0 v1 v2) : RowD W' b v0 v1 v2 := (hb.block b h.lt).trans h
theorem RowD.parts {W : World} {b : Nat} {v0 v1 v2 : Value} (h : RowD W b v0 v1 v2) :
    W.cell? ⟨b, 0, none⟩ = some v0 ∧ W.cell? ⟨b, 1, none⟩ = some v1 ∧ W.cell? ⟨b, 2, none⟩ = some v2 ∧
    W.frozen? ⟨b, 0, none⟩ = false ∧ W.frozen? ⟨b, 1, none⟩ = false ∧ W.frozen? ⟨b, 2, none⟩ = false :=
  ⟨cell_of_row W b 0 _ _ _ h, cell_of_row W b 1 _ _ _ h, cell_of_row W b 2 _ _ _ h, frozen_of_row W b 0 _ _ h, frozen_of_row W b 1 _ _ h, frozen_of_row W b 2 _ _ h⟩
theorem dbsc3 {w X : World} (h : Below w.heap.size w X) {b : Nat} (hb : w.heap.size ≤ b) (v0 v1 v2 : Value) :
    Below w.heap.size w (((X.setCell ⟨b, 0, none⟩ v0).setCell ⟨b, 1, none⟩ v1).setCell ⟨b, 2, none⟩ v2) :=
  ((h.setCell hb v0).setCell hb v1).setCell hb v2
/-- A decimal's value. -/
abbrev DV (g : Bool) (s : ByteArray) (p : Int) : Value := .agg #[.bool g, .string s, .int .i64 p]
theorem rd_short (l : List UInt8) (a r : List UInt8) (g : Bool) (w : World) (ha : a = [])
    (k0 : ∀ W, Calls Tryz.prog 114 #[.string (str l), .string ⟨#[45]⟩] W fun e w' => e = .returned (.tuple #[.string (str (a ++ r)), .bool g]) ∧ w' = W)
    (k1 : ∀ W, Calls Tryz.prog 167 #[.string (str (a ++ r))] W fun e w' => e = .returned (.tuple #[.string (str a), .string (str r)]) ∧ Below W.heap.size W w') :
    Calls Tryz.prog 125 #[.string (str l)] w fun e w' => e = .returned (.tuple #[DV false ⟨#[]⟩ 0, .bool false]) ∧ Below w.heap.size w w' := by
  have K0 := Lib.hid k0; have K1 := Lib.hid k1; clear k0 k1
  subst ha
  have f1 : (str []).toList.isEmpty = true := by decide +kernel
  have f2 : (str []).toList = [] := by decide +kernel
  generalize str ([] ++ r) = T at *
  generalize str r = R at *
  generalize str [] = E at *
  generalize str l = S at *
  go_enter Tryz.func125, Tryz.ntmps125
  go_wp2_with fail
  (with_reducible refine (K0.out _).mono ?_)
  rintro e w' ⟨rfl, rfl⟩
  go_wp2_with fail
  (with_reducible refine (K1.out _).mono ?_)
  rintro e w1 ⟨rfl, hb⟩
  have D1 := RowD.keep hb (RowD.new _ _ _ _)
  have hw : Below w.heap.size w w1 := dbtr ((Below.refl _ _).alloc (Nat.le_refl _) _) hb
  clear hb
  obtain ⟨c0, c1, c2, g0, g1, g2⟩ := D1.parts
  go_wp2
  exact bodyPost_ret (v := .tuple #[DV false ⟨#[]⟩ 0, .bool false]) (by simp [results, Tryz.results125, go_sem, c0, c1, c2]) rfl ⟨rfl, dbsc3 hw (Nat.le_refl _) _ _ _⟩
-- WAYS
/-- The figures ahead are no number's: none, or a nought ahead of others. -/
def Ahead (A : ByteArray) : Prop := A.toList.isEmpty = false ∧ ¬ A.toList = [] ∧ ((A.size : Int) ≤ 1 ∨ (1 < (A.size : Int) ∧ ((A.extract 0 1).toList == [48]) = false))
theorem ahead_of {a : List UInt8} (h0 : a ≠ []) (h1 : ¬ (1 < a.length ∧ a.take 1 = [48])) : Ahead (str a) := by
  refine ⟨by rw [str_toList]; cases a with | nil => exact absurd rfl h0 | cons => rfl, by rw [str_toList]; exact h0, ?_⟩
  rw [str_size]
  by_cases hl : 1 < a.length
  · refine Or.inr ⟨by omega, ?_⟩
    rw [str_take, str_toList, beq_eq_false_iff_ne]
    exact fun h => h1 ⟨hl, h⟩
  · exact Or.inl (by omega)
set_option maxHeartbeats 1000000 in
theorem rd_nought (S T A R : ByteArray) (g : Bool) (e1 : A.toList.isEmpty = false) (_e2 : ¬ A.toList = []) (e3 : 1 < (A.size : Int)) (e4 : ((A.extract 0 1).toList == [48]) = true) (w : World)
    (k0 : ∀ W, Calls Tryz.prog 114 #[.string S, .string ⟨#[45]⟩] W fun e w' => e = .returned (.tuple #[.string T, .bool g]) ∧ w' = W)
    (k1 : ∀ W, Calls Tryz.prog 167 #[.string T] W fun e w' => e = .returned (.tuple #[.string A, .string R]) ∧ Below W.heap.size W w') :
    Calls Tryz.prog 125 #[.string S] w fun e w' => e = .returned (.tuple #[DV false ⟨#[]⟩ 0, .bool false]) ∧ Below w.heap.size w w' := by
  have K0 := Lib.hid k0; have K1 := Lib.hid k1; clear k0 k1
  go_enter Tryz.func125, Tryz.ntmps125
  go_wp2_with fail
  (with_reducible refine (K0.out _).mono ?_)
  rintro e w' ⟨rfl, hw'⟩
  rw [hw']; clear hw' w'
  go_wp2_with fail
  (with_reducible refine (K1.out _).mono ?_)
  rintro e w1 ⟨rfl, hb⟩
  have D1 := RowD.keep hb (RowD.new _ _ _ _)
  have hw1 : Below w.heap.size w w1 := dbtr ((Below.refl _ _).alloc (Nat.le_refl _) _) hb
  clear hb
  obtain ⟨c0, c1, c2, g0, g1, g2⟩ := D1.parts
  go_wp2
  exact bodyPost_ret (v := .tuple #[DV false ⟨#[]⟩ 0, .bool false]) (by simp [results, Tryz.results125, go_sem, c0, c1, c2]) rfl ⟨rfl, dbsc3 hw1 (Nat.le_refl _) _ _ _⟩
set_option maxHeartbeats 1000000 in
theorem rd_behind (S T A R B R2 : ByteArray) (g : Bool) (hA : Ahead A) (w : World)
    (k0 : ∀ W, Calls Tryz.prog 114 #[.string S, .string ⟨#[45]⟩] W fun e w' => e = .returned (.tuple #[.string T, .bool g]) ∧ w' = W)
    (k1 : ∀ W, Calls Tryz.prog 167 #[.string T] W fun e w' => e = .returned (.tuple #[.string A, .string R]) ∧ Below W.heap.size W w')
    (k2 : ∀ W, Calls Tryz.prog 168 #[.string R] W fun e w' => e = .returned (.tuple #[.string B, .string R2, .bool false]) ∧ Below W.heap.size W w') :
    Calls Tryz.prog 125 #[.string S] w fun e w' => e = .returned (.tuple #[DV false ⟨#[]⟩ 0, .bool false]) ∧ Below w.heap.size w w' := by
  have K0 := Lib.hid k0; have K1 := Lib.hid k1; have K2 := Lib.hid k2; clear k0 k1 k2
  obtain ⟨f1, f2, f3⟩ := hA
  rcases f3 with f3 | ⟨f3, f4⟩
  all_goals
    go_enter Tryz.func125, Tryz.ntmps125
    go_wp2_with fail
    (with_reducible refine (K0.out _).mono ?_)
    rintro e w' ⟨rfl, hw'⟩
    rw [hw']; clear hw' w'
    go_wp2_with fail
    (with_reducible refine (K1.out _).mono ?_)
    rintro e w1 ⟨rfl, hb⟩
    have D1 := RowD.keep hb (RowD.new _ _ _ _)
    have hw1 : Below w.heap.size w w1 := dbtr ((Below.refl _ _).alloc (Nat.le_refl _) _) hb
    clear hb
    go_wp2_with fail
    (with_reducible refine (K2.out _).mono ?_)
    rintro e w2 ⟨rfl, hb⟩
    have D2 := RowD.keep hb D1
    have hw2 : Below w.heap.size w w2 := dbtr hw1 hb
    clear D1 hw1
    clear hb
    obtain ⟨c0, c1, c2, g0, g1, g2⟩ := D2.parts
    go_wp2
    exact bodyPost_ret (v := .tuple #[DV false ⟨#[]⟩ 0, .bool false]) (by simp [results, Tryz.results125, go_sem, c0, c1, c2]) rfl ⟨rfl, dbsc3 hw2 (Nat.le_refl _) _ _ _⟩
set_option maxHeartbeats 1000000 in
theorem rd_exp (S T A R B R2 : ByteArray) (g : Bool) (x : Int) (hA : Ahead A) (w : World)
    (k0 : ∀ W, Calls Tryz.prog 114 #[.string S, .string ⟨#[45]⟩] W fun e w' => e = .returned (.tuple #[.string T, .bool g]) ∧ w' = W)
    (k1 : ∀ W, Calls Tryz.prog 167 #[.string T] W fun e w' => e = .returned (.tuple #[.string A, .string R]) ∧ Below W.heap.size W w')
    (k2 : ∀ W, Calls Tryz.prog 168 #[.string R] W fun e w' => e = .returned (.tuple #[.string B, .string R2, .bool true]) ∧ Below W.heap.size W w')
    (k3 : ∀ W, Calls Tryz.prog 169 #[.string R2] W fun e w' => e = .returned (.tuple #[.int .i64 x, .bool false]) ∧ Below W.heap.size W w') :
    Calls Tryz.prog 125 #[.string S] w fun e w' => e = .returned (.tuple #[DV false ⟨#[]⟩ 0, .bool false]) ∧ Below w.heap.size w w' := by
  have K0 := Lib.hid k0; have K1 := Lib.hid k1; have K2 := Lib.hid k2; have K3 := Lib.hid k3; clear k0 k1 k2 k3
  obtain ⟨f1, f2, f3⟩ := hA
  rcases f3 with f3 | ⟨f3, f4⟩
  all_goals
    go_enter Tryz.func125, Tryz.ntmps125
    go_wp2_with fail
    (with_reducible refine (K0.out _).mono ?_)
    rintro e w' ⟨rfl, hw'⟩
    rw [hw']; clear hw' w'
    go_wp2_with fail
    (with_reducible refine (K1.out _).mono ?_)
    rintro e w1 ⟨rfl, hb⟩
    have D1 := RowD.keep hb (RowD.new _ _ _ _)
    have hw1 : Below w.heap.size w w1 := dbtr ((Below.refl _ _).alloc (Nat.le_refl _) _) hb
    clear hb
    go_wp2_with fail
    (with_reducible refine (K2.out _).mono ?_)
    rintro e w2 ⟨rfl, hb⟩
    have D2 := RowD.keep hb D1
    have hw2 : Below w.heap.size w w2 := dbtr hw1 hb
    clear D1 hw1
    clear hb
    go_wp2_with fail
    (with_reducible refine (K3.out _).mono ?_)
    rintro e w3 ⟨rfl, hb⟩
    have D3 := RowD.keep hb D2
    have hw3 : Below w.heap.size w w3 := dbtr hw2 hb
    clear D2 hw2
    clear hb
    obtain ⟨c0, c1, c2, g0, g1, g2⟩ := D3.parts
    go_wp2
    exact bodyPost_ret (v := .tuple #[DV false ⟨#[]⟩ 0, .bool false]) (by simp [results, Tryz.results125, go_sem, c0, c1, c2]) rfl ⟨rfl, dbsc3 hw3 (Nat.le_refl _) _ _ _⟩
set_option maxHeartbeats 1000000 in
theorem rd_yes (S T A R B R2 C D : ByteArray) (g : Bool) (x : Int) (hx0 : -10000 ≤ x) (hx1 : x ≤ 10000) (hAm : A.size + B.size ≤ 140737488351232) (hCm : C.size ≤ 281474976702464) (hA : Ahead A) (w : World)
    (k0 : ∀ W, Calls Tryz.prog 114 #[.string S, .string ⟨#[45]⟩] W fun e w' => e = .returned (.tuple #[.string T, .bool g]) ∧ w' = W)
    (k1 : ∀ W, Calls Tryz.prog 167 #[.string T] W fun e w' => e = .returned (.tuple #[.string A, .string R]) ∧ Below W.heap.size W w')
    (k2 : ∀ W, Calls Tryz.prog 168 #[.string R] W fun e w' => e = .returned (.tuple #[.string B, .string R2, .bool true]) ∧ Below W.heap.size W w')
    (k3 : ∀ W, Calls Tryz.prog 169 #[.string R2] W fun e w' => e = .returned (.tuple #[.int .i64 x, .bool true]) ∧ Below W.heap.size W w')
    (k4 : ∀ W, Calls Tryz.prog 170 #[.string (A ++ B), .string ⟨#[48]⟩] W fun e w' => e = .returned (.string C) ∧ w' = W)
    (k5 : ∀ W, Calls Tryz.prog 42 #[.string C, .string ⟨#[48]⟩] W fun e w' => e = .returned (.string D) ∧ w' = W) :
    Calls Tryz.prog 125 #[.string S] w fun e w' => e = .returned (.tuple #[DV g D (x + (A.size : Int) - (C.size : Int)), .bool true]) ∧ Below w.heap.size w w' := by
  have K0 := Lib.hid k0; have K1 := Lib.hid k1; have K2 := Lib.hid k2; have K3 := Lib.hid k3; have K4 := Lib.hid k4; have K5 := Lib.hid k5; clear k0 k1 k2 k3 k4 k5
  obtain ⟨f1, f2, f3⟩ := hA
  rcases f3 with f3 | ⟨f3, f4⟩
  all_goals
    go_enter Tryz.func125, Tryz.ntmps125
    go_wp2_with fail
    (with_reducible refine (K0.out _).mono ?_)
    rintro e w' ⟨rfl, hw'⟩
    rw [hw']; clear hw' w'
    go_wp2_with fail
    (with_reducible refine (K1.out _).mono ?_)
    rintro e w1 ⟨rfl, hb⟩
    have D1 := RowD.keep hb (RowD.new _ _ _ _)
    have hw1 : Below w.heap.size w w1 := dbtr ((Below.refl _ _).alloc (Nat.le_refl _) _) hb
    clear hb
    go_wp2_with fail
    (with_reducible refine (K2.out _).mono ?_)
    rintro e w2 ⟨rfl, hb⟩
    have D2 := RowD.keep hb D1
    have hw2 : Below w.heap.size w w2 := dbtr hw1 hb
    clear D1 hw1
    clear hb
    go_wp2_with fail
    (with_reducible refine (K3.out _).mono ?_)
    rintro e w3 ⟨rfl, hb⟩
    have D3 := RowD.keep hb D2
    have hw3 : Below w.heap.size w w3 := dbtr hw2 hb
    clear D2 hw2
    clear hb
    go_wp2_with fail
    (with_reducible refine (K4.out _).mono ?_)
    rintro e w' ⟨rfl, hw'⟩
    rw [hw']; clear hw' w'
    go_wp2_with fail
    (with_reducible refine (K5.out _).mono ?_)
    rintro e w' ⟨rfl, hw'⟩
    rw [hw']; clear hw' w'
    obtain ⟨c0, c1, c2, g0, g1, g2⟩ := D3.parts
    go_wp2
    exact bodyPost_ret (v := .tuple #[DV g D (x + (A.size : Int) - (C.size : Int)), .bool true]) (by simp [results, Tryz.results125, go_sem, c0, c1, c2]) rfl ⟨rfl, dbsc3 hw3 (Nat.le_refl _) _ _ _⟩
theorem mns_no {l : List UInt8} (h : ¬ ∃ t, l = 45 :: t) : mns l = (false, l) := by
  unfold mns
  split
  · exact absurd ⟨_, rfl⟩ h
  · rfl
theorem cut_mns (l : List UInt8) (hl : l.length ≤ 140737488351232) (W : World) :
    Calls Tryz.prog 114 #[.string (str l), .string ⟨#[45]⟩] W fun e w' => e = .returned (.tuple #[.string (str (mns l).2), .bool (mns l).1]) ∧ w' = W := by
  by_cases h : ∃ t, l = 45 :: t
  · obtain ⟨t, rfl⟩ := h
    exact cut_yes 45 t hl W
  · rw [mns_no h]
    exact cut_no 45 l h W
theorem mns_len (l : List UInt8) : (mns l).2.length ≤ l.length := by
  by_cases h : ∃ t, l = 45 :: t
  · obtain ⟨t, rfl⟩ := h
    show t.length ≤ _
    simp
  · rw [mns_no h]; exact Nat.le_refl _
theorem bhd_len (l : List UInt8) : (bhd l).1.length + (bhd l).2.1.length ≤ l.length := by
  by_cases h : ∃ t, l = 46 :: t
  · obtain ⟨t, rfl⟩ := h
    have := figs_len t
    show (figs t).length + (rst t).length ≤ _
    simp only [List.length_cons]
    omega
  · rw [bhd_no h]; simp
theorem tr0_len (l : List UInt8) : (tr0 l).length ≤ l.length := by
  unfold tr0
  rw [List.length_reverse]
  exact Nat.le_trans (List.dropWhile_sublist _).length_le (by rw [List.length_reverse]; exact Nat.le_refl _)
theorem expo_le {l : List UInt8} {e : Int} (h : expo l = some e) : -10000 ≤ e ∧ e ≤ 10000 := by
  cases l with
  | nil => simp only [expo] at h; cases h; omega
  | cons c t =>
    have hz := szs_le (figs (dsgn t).2) 0 (by decide)
    have key : expo (c :: t) = if c = 101 ∨ c = 69 then (if figs (dsgn t).2 = [] ∨ rst (dsgn t).2 ≠ [] then none else some (if (dsgn t).1 then -(szs 0 (figs (dsgn t).2) : Int) else (szs 0 (figs (dsgn t).2) : Int))) else none := rfl
    rw [key] at h
    split at h
    · split at h
      · cases h
      · generalize szs 0 (figs (dsgn t).2) = z at *
        injection h with h
        split at h <;> omega
    · cases h
/-- What read answers. -/
def rans (o : Option (Bool × List UInt8 × Int)) : Value := match o with | none => .tuple #[DV false ⟨#[]⟩ 0, .bool false] | some (g, d, p) => .tuple #[DV g (str d) p, .bool true]
theorem read_any (l : List UInt8) (hl : l.length ≤ 70368744175616) (w : World) :
    Calls Tryz.prog 125 #[.string (str l)] w fun e w' => e = .returned (rans (rd l)) ∧ Below w.heap.size w w' := by
  have k0 := fun W => cut_mns l (by omega) W
  have l1 := mns_len l
  have k1 := fun W => figs_any (mns l).2 (by omega) W
  have l2 := figs_len (mns l).2
  have k2 := fun W => cbehind_any (rst (mns l).2) (by omega) W
  have l3 := bhd_len (rst (mns l).2)
  have k3 := fun W => exponent_any (bhd (rst (mns l).2)).2.1 (by omega) W
  unfold rd
  simp only
  generalize hg : (mns l).1 = g at *
  have e0 := figs_rst (mns l).2
  generalize hT : (mns l).2 = T at *
  clear hg hT
  generalize figs T = a at *
  generalize rst T = r at *
  by_cases ha : a = []
  · rw [if_pos (Or.inl ha)]
    rw [← e0] at k0 k1
    exact rd_short l a r g w ha k0 k1
  · by_cases hn : 1 < a.length ∧ a.take 1 = [48]
    · rw [if_pos (Or.inr hn)]
      have hs := str_size a
      refine rd_nought (str l) (str T) (str a) (str r) g (by rw [str_toList]; cases a with | nil => exact absurd rfl ha | cons => rfl) (by rw [str_toList]; exact ha) (by omega) ?_ w k0 k1
      rw [str_take, str_toList, hn.2]
      rfl
    · rw [if_neg (by rintro (h | h); exact ha h; exact hn h)]
      have hA := ahead_of ha hn
      generalize hb1 : (bhd r).1 = b at *
      generalize (bhd r).2.1 = r2 at *
      cases hok : (bhd r).2.2 with
      | false =>
        rw [if_pos rfl]
        rw [hok] at k2
        exact rd_behind _ _ _ _ _ _ g hA w k0 k1 k2
      | true =>
        rw [if_neg (by decide)]
        rw [hok] at k2
        cases he : expo r2 with
        | none =>
          rw [he] at k3
          exact rd_exp _ _ _ _ _ _ g 0 hA w k0 k1 k2 k3
        | some x =>
          rw [he] at k3
          have hx := expo_le he
          have hab : (a ++ b).length ≤ 140737488351232 := by rw [List.length_append]; omega
          have k4 := fun W => trim_right_one (str a ++ str b) 48 (by decide) W (by rw [str_app, str_size]; omega)
          have hc := tr0_len (a ++ b)
          rw [str_app] at k4
          have e4 : (⟨(Lib.trimRightB (str (a ++ b)).data.toList 48).toArray⟩ : ByteArray) = str (tr0 (a ++ b)) := by rw [str_data]; rfl
          rw [e4] at k4
          have k5 := fun W => trim_left_one (str (tr0 (a ++ b))) 48 (by decide) W
          have e5 : (⟨(Lib.trimLeftB (str (tr0 (a ++ b))).data.toList 48).toArray⟩ : ByteArray) = str (tl0 (tr0 (a ++ b))) := by rw [str_data]; rfl
          rw [e5] at k5
          have s1 := str_size a
          have s2 := str_size (tr0 (a ++ b))
          have h := rd_yes (str l) (str T) (str a) (str r) (str b) (str r2) _ _ g x hx.1 hx.2 (by rw [s1, str_size]; omega) (by omega) hA w k0 k1 k2 k3 (by rw [str_app]; exact k4) k5
          rw [s1, s2] at h
          exact h
end Go.Proofs.YtebfggiodhaahaaGreatDoor
end
section
namespace Go.Proofs.YtebfggiodhaahaaGreatDoor
open Go.RowKit Go.Shelf

/-- What times answers. -/
def tms (x f p : Nat) : Value := if x * f ^ p < 2 ^ 256 then .tuple #[N4 (x * f ^ p), .bool true] else .tuple #[N4 0, .bool false]
theorem pow_grow {x f k p : Nat} (hf : 1 ≤ f) (hk : k ≤ p) : x * f ^ k ≤ x * f ^ p := Nat.mul_le_mul_left _ (Nat.pow_le_pow_right hf hk)
/-- How far times has come. -/
def TAt (x f p k y : Nat) (o : Bool) : Prop := (o = true ∧ k ≤ p ∧ y = x * f ^ k ∧ y < 2 ^ 256) ∨ (o = false ∧ y = 0 ∧ ¬ x * f ^ p < 2 ^ 256)
theorem TAt.end_ {x f p k y : Nat} {o : Bool} (h : TAt x f p k y o) (he : o = false ∨ p ≤ k) : tms x f p = .tuple #[N4 y, .bool o] := by
  unfold tms
  rcases h with ⟨rfl, h2, rfl, h4⟩ | ⟨rfl, rfl, h4⟩
  · rcases he with he | he
    · cases he
    · obtain rfl : k = p := by omega
      rw [if_pos h4]
  · rw [if_neg h4]
set_option maxHeartbeats 1000000 in
theorem times_any (x f p : Nat) (hx : x < 2 ^ 256) (hf : 1 ≤ f) (hf2 : f < 18446744073709551616) (hp : p ≤ 100000) (w : World) :
    Calls Tryz.prog 66 #[N4 x, .int .u64 (f : Int), .int .i64 (p : Int)] w fun e w' => e = .returned (tms x f p) ∧ Below w.heap.size w w' := by
  have HX := Lib.hid hx; clear hx
  have HF := Lib.hid hf; have HF2 := Lib.hid hf2; clear hf hf2
  obtain ⟨V, hV⟩ : ∃ V, tms x f p = V := ⟨_, rfl⟩
  have HV := Lib.hid hV
  rw [hV]
  clear hV
  go_enter Tryz.func66, Tryz.ntmps66
  go_wp2
  go_loopw [8, 9] (fun o i wr => ∃ (k y : Nat) (b : Bool), k ≤ p + 1 ∧ o = .bool b ∧ i = .int .i64 (k : Nat) ∧ Hid (TAt x f p k y b) ∧ Row4 wr w.heap.size (.int .u64 (lb 0 y)) (.int .u64 (lb 1 y)) (.int .u64 (lb 2 y)) (.int .u64 (lb 3 y)) ∧ Row4 wr (w.heap.size + 1) (.int .u64 0) (.int .u64 0) (.int .u64 0) (.int .u64 0) ∧ Below w.heap.size w wr) (fun o i _ => match o with | .bool true => p - (intOf i).toNat | _ => 0)
  case atStart => exact ⟨0, x, true, Nat.zero_le _, rfl, rfl, Or.inl ⟨rfl, Nat.zero_le _, by simp, HX.out⟩, Row4.alloc (Row4.new _ _ _ _ _) _, Row4.new' _ (by simp) _ _ _ _, bal (bal (Below.refl _ _) _) _⟩
  case round =>
    obtain ⟨k, y, b, hk, rfl, rfl, HT, R1, R2, hw⟩ := hrel
    rename World => wr
    obtain ⟨t0, t1, t2, t3, tf0, tf1, tf2, tf3⟩ := R1.parts
    obtain ⟨z0, z1, z2, z3, zf0, zf1, zf2, zf3⟩ := R2.parts
    cases b with
    | false =>
      have HE := Lib.hid (HT.out.end_ (Or.inl rfl))
      go_wp2
      refine bodyPost_ret (v := .tuple #[N4 y, .bool false]) (by simp [results, Tryz.results66, go_sem, z0, z1, z2, z3]) rfl ⟨by rw [← HV.out, HE.out], bsc4 hw (by omega) _ _ _ _⟩
    | true =>
      by_cases hlt : k < p
      · have hlti : (k : Int) < (p : Int) := by omega
        have hT := HT.out
        have hy : y = x * f ^ k ∧ y < 2 ^ 256 := by
          rcases hT with ⟨_, _, h1, h2⟩ | ⟨h1, _⟩
          · exact ⟨h1, h2⟩
          · cases h1
        by_cases hn : y * f < 2 ^ 256
        · have HN : Hid (TAt x f p (k + 1) (y * f) true) := Or.inl ⟨rfl, by omega, by rw [hy.1, Nat.pow_succ, Nat.mul_assoc], hn⟩
          have HC := Lib.hid (fun W => mul_ok y f hy.2 HF2.out hn W)
          generalize y * f = z at *
          clear hT hy hn HT
          go_wp2_with fail
          (with_reducible refine (HC.out _).mono ?_)
          rintro e w2 ⟨rfl, hb2⟩
          have R3 := Row4.keep hb2 R1
          have R4 := Row4.keep hb2 R2
          have hw2 := btr hw hb2
          obtain ⟨q0, q1, q2, q3, g0, g1, g2, g3⟩ := R3.parts
          clear R1 R2 hw hb2 t0 t1 t2 t3 tf0 tf1 tf2 tf3 z0 z1 z2 z3 zf0 zf1 zf2 zf3
          go_wp2
          go_roundw
          case rel => exact ⟨k + 1, z, true, by omega, rfl, by go_num, HN, Row4.set4 R3 _ _ _ _, Row4.set (Row4.set (Row4.set (Row4.set R4 (by omega) _) (by omega) _) (by omega) _) (by omega) _, bsc4 hw2 (by omega) _ _ _ _⟩
          case measure => simp [intOf]; omega
        · have HN : Hid (TAt x f p (k + 1) 0 false) := Or.inr ⟨rfl, rfl, by
            have h1 := pow_grow (x := x) HF.out (show k + 1 ≤ p by omega)
            have h2 : x * f ^ (k + 1) = y * f := by rw [hy.1, Nat.pow_succ, Nat.mul_assoc]
            omega⟩
          have HC := Lib.hid (fun W => mul_over y f hy.2 HF2.out hn W)
          clear hT hy hn HT
          go_wp2_with fail
          (with_reducible refine (HC.out _).mono ?_)
          rintro e w2 ⟨rfl, hb2⟩
          have R3 := Row4.keep hb2 R1
          have R4 := Row4.keep hb2 R2
          have hw2 := btr hw hb2
          obtain ⟨q0, q1, q2, q3, g0, g1, g2, g3⟩ := R3.parts
          clear R1 R2 hw hb2 t0 t1 t2 t3 tf0 tf1 tf2 tf3 z0 z1 z2 z3 zf0 zf1 zf2 zf3
          go_wp2
          go_roundw
          case rel => exact ⟨k + 1, 0, false, by omega, rfl, by go_num, HN, Row4.set4 R3 _ _ _ _, Row4.set (Row4.set (Row4.set (Row4.set R4 (by omega) _) (by omega) _) (by omega) _) (by omega) _, bsc4 hw2 (by omega) _ _ _ _⟩
          case measure => simp [intOf]; omega
      · have HE := Lib.hid (HT.out.end_ (Or.inr (by omega)))
        go_wp2
        refine bodyPost_ret (v := .tuple #[N4 y, .bool true]) (by simp [results, Tryz.results66, go_sem, z0, z1, z2, z3]) rfl ⟨by rw [← HV.out, HE.out], bsc4 hw (by omega) _ _ _ _⟩
/-- What withoutFives answers. -/
def wfv (x p : Nat) : Value := if 5 ^ p ∣ x then .tuple #[N4 (x / 5 ^ p), .bool true] else .tuple #[N4 0, .bool false]
set_option maxHeartbeats 1000000 in
theorem fives_any (x p : Nat) (hx : x < 2 ^ 256) (hp : p ≤ 100000) (w : World) :
    Calls Tryz.prog 172 #[N4 x, .int .i64 (p : Int)] w fun e w' => e = .returned (wfv x p) ∧ Below w.heap.size w w' := by
  have HX := Lib.hid hx; clear hx
  obtain ⟨V, hV⟩ : ∃ V, wfv x p = V := ⟨_, rfl⟩
  have HV := Lib.hid hV
  rw [hV]
  clear hV
  go_enter Tryz.func172, Tryz.ntmps172
  go_wp2
  go_loopw [10] (fun i wr => ∃ (k y : Nat), k ≤ p ∧ i = .int .i64 (k : Nat) ∧ Hid (x = y * 5 ^ k) ∧ y < 2 ^ 256 ∧ Row4 wr w.heap.size (.int .u64 (lb 0 y)) (.int .u64 (lb 1 y)) (.int .u64 (lb 2 y)) (.int .u64 (lb 3 y)) ∧ Row4 wr (w.heap.size + 1) (.int .u64 0) (.int .u64 0) (.int .u64 0) (.int .u64 0) ∧ Below w.heap.size w wr) (fun i _ => p - (intOf i).toNat)
  case atStart => exact ⟨0, x, Nat.zero_le _, rfl, by unfold Hid; simp, HX.out, Row4.alloc (Row4.new _ _ _ _ _) _, Row4.new' _ (by simp) _ _ _ _, bal (bal (Below.refl _ _) _) _⟩
  case round =>
    obtain ⟨k, y, hk, rfl, HT, hy, R1, R2, hw⟩ := hrel
    rename World => wr
    obtain ⟨t0, t1, t2, t3, tf0, tf1, tf2, tf3⟩ := R1.parts
    obtain ⟨z0, z1, z2, z3, zf0, zf1, zf2, zf3⟩ := R2.parts
    by_cases hlt : k < p
    · have hlti : (k : Int) < (p : Int) := by omega
      have HC : Hid (∀ W, Calls Tryz.prog 112 #[N4 y, .int .u64 5] W fun e w' => e = .returned (.tuple #[N4 (y / 5), .int .u64 ((y % 5 : Nat) : Int), .bool true]) ∧ Below W.heap.size W w') := fun W => div_any y 5 hy (by decide) (by decide) W
      obtain ⟨r, hr⟩ : ∃ r, y % 5 = r := ⟨_, rfl⟩
      by_cases h0 : r = 0
      · have HN : Hid (x = y / 5 * 5 ^ (k + 1)) := by
          have e : y = y / 5 * 5 := by omega
          have := HT.out
          rw [e] at this
          rw [this, Nat.pow_succ, Nat.mul_assoc, Nat.mul_comm 5]
          rfl
        have hq : y / 5 < 2 ^ 256 := by omega
        rw [hr, h0] at HC
        clear hr h0 HT
        generalize y / 5 = q at *
        have HC0 : Hid (∀ W, Calls Tryz.prog 112 #[N4 y, .int .u64 5] W fun e w' => e = .returned (.tuple #[N4 q, .int .u64 0, .bool true]) ∧ Below W.heap.size W w') := HC
        clear HC
        go_wp2_with fail
        (with_reducible refine (HC0.out _).mono ?_)
        rintro e w2 ⟨rfl, hb2⟩
        have R3 := Row4.keep hb2 R1
        have R4 := Row4.keep hb2 R2
        have hw2 := btr hw hb2
        have hlt1 := R3.lt
        have hlt2 := R4.lt
        obtain ⟨q0, q1, q2, q3, g0, g1, g2, g3⟩ := R3.parts
        clear R1 R2 hw hb2 t0 t1 t2 t3 tf0 tf1 tf2 tf3 z0 z1 z2 z3 zf0 zf1 zf2 zf3
        go_wp2
        go_roundw
        case rel => exact ⟨k + 1, q, by omega, by go_num, HN, hq, Row4.alloc (Row4.set4 R3 _ _ _ _) _, Row4.alloc (Row4.set (Row4.set (Row4.set (Row4.set R4 (by omega) _) (by omega) _) (by omega) _) (by omega) _) _, bal (bsc4 hw2 (by omega) _ _ _ _) _⟩
        case measure => simp [intOf]; omega
      · have HE : Hid (wfv x p = .tuple #[N4 0, .bool false]) := by
          show wfv x p = _
          unfold wfv
          rw [if_neg]
          rintro ⟨c, hc⟩
          rw [HT.out] at hc
          have e : p = k + 1 + (p - k - 1) := by omega
          rw [e, Nat.pow_add, Nat.pow_succ, Nat.mul_assoc, Nat.mul_assoc, Nat.mul_comm y] at hc
          have := Nat.eq_of_mul_eq_mul_left (Nat.pow_pos (by decide)) hc
          omega
        have hrz : ((r : Int) != 0) = true := by rw [bne_iff_ne]; omega
        rw [hr] at HC
        clear hr h0 HT
        generalize y / 5 = q at *
        go_wp2_with fail
        (with_reducible refine (HC.out _).mono ?_)
        rintro e w2 ⟨rfl, hb2⟩
        have R4 := Row4.keep hb2 R2
        have hw2 := btr hw hb2
        have hlt2 := R4.lt
        obtain ⟨q0, q1, q2, q3, g0, g1, g2, g3⟩ := R4.parts
        clear R1 R2 hw hb2 t0 t1 t2 t3 tf0 tf1 tf2 tf3 z0 z1 z2 z3 zf0 zf1 zf2 zf3
        have R5 := Row4.alloc (Row4.set4 R4 (.int .u64 0) (.int .u64 0) (.int .u64 0) (.int .u64 0)) (.cells #[.int .u64 (lb 0 q), .int .u64 (lb 1 q), .int .u64 (lb 2 q), .int .u64 (lb 3 q)] 26)
        obtain ⟨s0, s1, s2, s3, _⟩ := R5.parts
        have S := Lib.hid (And.intro s0 (And.intro s1 (And.intro s2 s3)))
        clear s0 s1 s2 s3 R5
        go_wp2
        obtain ⟨s0, s1, s2, s3⟩ := S.out
        refine bodyPost_ret (v := .tuple #[N4 0, .bool false]) (by simp [results, Tryz.results172, go_sem, s0, s1, s2, s3, lb_zero]) rfl ⟨by rw [← HV.out, HE.out], bal (bsc4 hw2 (by omega) _ _ _ _) _⟩
    · have HE : Hid (wfv x p = .tuple #[N4 y, .bool true]) := by
        show wfv x p = _
        obtain rfl : k = p := by omega
        unfold wfv
        have h5 := Nat.pow_pos (n := k) (show 0 < 5 by decide)
        rw [if_pos ⟨y, by rw [HT.out, Nat.mul_comm]⟩, HT.out, Nat.mul_div_cancel _ h5]
      go_wp2
      refine bodyPost_ret (v := .tuple #[N4 y, .bool true]) (by simp [results, Tryz.results172, go_sem, z0, z1, z2, z3]) rfl ⟨by rw [← HV.out, HE.out], bsc4 hw (by omega) _ _ _ _⟩
end Go.Proofs.YtebfggiodhaahaaGreatDoor
end
section
namespace Go.Proofs.YtebfggiodhaahaaGreatDoor
open Go.RowKit Go.Shelf

theorem RowD.alloc {W : World} {b : Nat} {v0 v1 v2 : Value} (h : RowD W b v0 v1 v2) (o : Obj) : RowD (W.alloc o) b v0 v1 v2 := (Below.heap_alloc W o b h.lt).trans h
theorem RowD.set {W : World} {b c i : Nat} {v0 v1 v2 : Value} (h : RowD W b v0 v1 v2) (hne : b ≠ c) (u : Value) : RowD (W.setCell ⟨c, i, none⟩ u) b v0 v1 v2 := by
  unfold RowD at *
  rw [← h]
  exact Below.heap_setCell W ⟨c, i, none⟩ u b hne

theorem whole_nil (g : Bool) (D : ByteArray) (p : Int) (_e1 : D.toList.isEmpty = true) (e2 : D.toList = []) (w : World) :
    Calls Tryz.prog 126 #[DV g D p] w fun e w' => e = .returned (.tuple #[Z5, .bool true]) ∧ Below w.heap.size w w' := by
  go_enter Tryz.func126, Tryz.ntmps126
  go_wp2
  exact bodyPost_ret (v := .tuple #[Z5, .bool true]) (by simp [results, Tryz.results126, go_sem]) rfl ⟨rfl, by repeat (first | (with_reducible exact Below.refl _ _) | (with_reducible refine bal ?_ _))⟩
set_option maxHeartbeats 1000000 in
theorem whole_core (g : Bool) (D : ByteArray) (p : Int) (n z : Nat) (o1 o2 : Bool) (h : (o1 = true ∧ 0 ≤ p) ∨ (o1 = false ∨ p < 0)) (e1 : D.toList.isEmpty = false) (_e2 : ¬ D.toList = []) (w : World)
    (k1 : ∀ W, Calls Tryz.prog 171 #[.string D] W fun e w' => e = .returned (.tuple #[N4 n, .bool o1]) ∧ Below W.heap.size W w')
    (k2 : o1 = true → 0 ≤ p → ∀ W, Calls Tryz.prog 66 #[N4 n, .int .u64 10, .int .i64 p] W fun e w' => e = .returned (.tuple #[N4 z, .bool o2]) ∧ Below W.heap.size W w') :
    Calls Tryz.prog 126 #[DV g D p] w fun e w' => e = .returned (if o1 = true ∧ 0 ≤ p then .tuple #[I5 g z, .bool o2] else .tuple #[Z5, .bool false]) ∧ Below w.heap.size w w' := by
  have K1 := Lib.hid k1; have K2 := Lib.hid k2; clear k1 k2
  rcases h with ⟨rfl, hp⟩ | h
  · rw [if_pos ⟨rfl, hp⟩]
    have K3 := Lib.hid (K2.out rfl hp)
    clear K2
    go_enter Tryz.func126, Tryz.ntmps126
    go_wp2_with fail
    (with_reducible refine (K1.out _).mono ?_)
    rintro e w1 ⟨rfl, hb⟩
    have D1 := RowD.keep hb (RowD.alloc (RowD.new w (.bool g) (.string D) (.int .i64 p)) _)
    have R1 := Row5.keep hb (Row5.new (w.alloc (.cells #[.bool g, .string D, .int .i64 p] 155)) (.bool false) (.int .u64 0) (.int .u64 0) (.int .u64 0) (.int .u64 0))
    have hw1 : Below w.heap.size w w1 := btr (bal (bal (Below.refl _ _) _) _) hb
    have hl1 := R1.lt
    have hl0 := D1.lt
    have hs : (w.alloc (.cells #[.bool g, .string D, .int .i64 p] 155)).heap.size = w.heap.size + 1 := by simp
    rw [hs] at R1 hl1
    obtain ⟨c0, c1, c2, g0, g1, g2⟩ := D1.parts
    clear hb hs
    go_wp2_with fail
    (with_reducible refine (K3.out _).mono ?_)
    rintro e w2 ⟨rfl, hb⟩
    have D2 := RowD.keep hb (RowD.alloc D1 _)
    have R2 := Row5.keep hb (Row5.alloc R1 _)
    have N2 := Row4.keep hb (Row4.new _ _ _ _ _)
    have hw2 : Below w.heap.size w w2 := btr (bal hw1 _) hb
    have hl2 := N2.lt
    have hl3 := D2.lt
    have hl4 := R2.lt
    clear D1 R1 hb hw1 c0 c1 c2 g0 g1 g2
    obtain ⟨c0, c1, c2, g0, g1, g2⟩ := D2.parts
    obtain ⟨r0, r1, r2, r3, r4⟩ := R2.parts
    obtain ⟨f0, f1, f2, f3, f4⟩ := R2.free
    obtain ⟨q0, q1, q2, q3, s0, s1, s2, s3⟩ := N2.parts
    go_wp2
    exact bodyPost_ret (v := .tuple #[I5 g z, .bool o2]) (by simp [results, Tryz.results126, go_sem, r0, r1, r2, r3, r4]) rfl ⟨rfl, bsc5 (bsc4 hw2 (by omega) _ _ _ _) (by omega) _ _ _ _ _⟩
  · rw [if_neg (by rintro ⟨a, b⟩; rcases h with h | h; rw [h] at a; cases a; omega)]
    have hp : o1 = false ∨ (o1 = true ∧ p < 0) := by
      cases o1
      · exact Or.inl rfl
      · exact Or.inr ⟨rfl, by rcases h with h | h; cases h; exact h⟩
    rcases hp with rfl | ⟨rfl, hp⟩
    all_goals
      go_enter Tryz.func126, Tryz.ntmps126
      go_wp2_with fail
      (with_reducible refine (K1.out _).mono ?_)
      rintro e w1 ⟨rfl, hb⟩
      have D1 := RowD.keep hb (RowD.alloc (RowD.new w (.bool g) (.string D) (.int .i64 p)) _)
      have R1 := Row5.keep hb (Row5.new (w.alloc (.cells #[.bool g, .string D, .int .i64 p] 155)) (.bool false) (.int .u64 0) (.int .u64 0) (.int .u64 0) (.int .u64 0))
      have hw1 : Below w.heap.size w w1 := btr (bal (bal (Below.refl _ _) _) _) hb
      have hl1 := R1.lt
      have hl0 := D1.lt
      have hs : (w.alloc (.cells #[.bool g, .string D, .int .i64 p] 155)).heap.size = w.heap.size + 1 := by simp
      rw [hs] at R1 hl1
      obtain ⟨c0, c1, c2, g0, g1, g2⟩ := D1.parts
      obtain ⟨r0, r1, r2, r3, r4⟩ := R1.parts
      obtain ⟨f0, f1, f2, f3, f4⟩ := R1.free
      clear hb hs
      have R6 := Row5.alloc (Row5.set5 R1 (.bool false) (.int .u64 0) (.int .u64 0) (.int .u64 0) (.int .u64 0)) (.cells #[.int .u64 (lb 0 n), .int .u64 (lb 1 n), .int .u64 (lb 2 n), .int .u64 (lb 3 n)] 26)
      have S := Lib.hid R6.parts
      clear R6
      go_wp2
      obtain ⟨s0, s1, s2, s3, s4⟩ := S.out
      exact bodyPost_ret (v := .tuple #[Z5, .bool false]) (by simp [results, Tryz.results126, go_sem, s0, s1, s2, s3, s4]) rfl ⟨rfl, bal (bsc5 hw1 (by omega) _ _ _ _ _) _⟩
set_option maxHeartbeats 1000000 in
theorem plain_core (g : Bool) (D : ByteArray) (p : Int) (n : Nat) (w : World)
    (k1 : ∀ W, Calls Tryz.prog 171 #[.string D] W fun e w' => e = .returned (.tuple #[N4 n, .bool false]) ∧ Below W.heap.size W w') :
    Calls Tryz.prog 127 #[DV g D p] w fun e w' => e = .returned (.tuple #[.int .u64 0, .bool false]) ∧ Below w.heap.size w w' := by
  have K1 := Lib.hid k1; clear k1
  go_enter Tryz.func127, Tryz.ntmps127
  go_wp2_with fail
  (with_reducible refine (K1.out _).mono ?_)
  rintro e w1 ⟨rfl, hb⟩
  have D1 := RowD.keep hb (RowD.new w (.bool g) (.string D) (.int .i64 p))
  have hw1 : Below w.heap.size w w1 := btr (bal (Below.refl _ _) _) hb
  have hl0 := D1.lt
  obtain ⟨c0, c1, c2, g0, g1, g2⟩ := D1.parts
  clear hb
  go_wp2
  go_ret2
  exact ⟨rfl, bal hw1 _⟩
set_option maxHeartbeats 1000000 in
theorem plain_pos (g : Bool) (D : ByteArray) (p : Int) (n : Nat) (hp : 0 ≤ p) (w : World)
    (k1 : ∀ W, Calls Tryz.prog 171 #[.string D] W fun e w' => e = .returned (.tuple #[N4 n, .bool true]) ∧ Below W.heap.size W w') :
    Calls Tryz.prog 127 #[DV g D p] w fun e w' => e = .returned (.tuple #[.int .u64 0, .bool false]) ∧ Below w.heap.size w w' := by
  have K1 := Lib.hid k1; clear k1
  go_enter Tryz.func127, Tryz.ntmps127
  go_wp2_with fail
  (with_reducible refine (K1.out _).mono ?_)
  rintro e w1 ⟨rfl, hb⟩
  have D1 := RowD.keep hb (RowD.new w (.bool g) (.string D) (.int .i64 p))
  have hw1 : Below w.heap.size w w1 := btr (bal (Below.refl _ _) _) hb
  have hl0 := D1.lt
  obtain ⟨c0, c1, c2, g0, g1, g2⟩ := D1.parts
  clear hb
  go_wp2
  go_ret2
  exact ⟨rfl, bal hw1 _⟩
set_option maxHeartbeats 1000000 in
theorem plain_five (g : Bool) (D : ByteArray) (p : Int) (n q : Nat) (hp : p < 0) (hpl : -20000 ≤ p) (w : World)
    (k1 : ∀ W, Calls Tryz.prog 171 #[.string D] W fun e w' => e = .returned (.tuple #[N4 n, .bool true]) ∧ Below W.heap.size W w')
    (k2 : ∀ W, Calls Tryz.prog 172 #[N4 n, .int .i64 (-p)] W fun e w' => e = .returned (.tuple #[N4 q, .bool false]) ∧ Below W.heap.size W w') :
    Calls Tryz.prog 127 #[DV g D p] w fun e w' => e = .returned (.tuple #[.int .u64 0, .bool false]) ∧ Below w.heap.size w w' := by
  have K1 := Lib.hid k1; have K2 := Lib.hid k2; clear k1 k2
  go_enter Tryz.func127, Tryz.ntmps127
  go_wp2_with fail
  (with_reducible refine (K1.out _).mono ?_)
  rintro e w1 ⟨rfl, hb⟩
  have D1 := RowD.keep hb (RowD.new w (.bool g) (.string D) (.int .i64 p))
  have hw1 : Below w.heap.size w w1 := btr (bal (Below.refl _ _) _) hb
  have hl0 := D1.lt
  obtain ⟨c0, c1, c2, g0, g1, g2⟩ := D1.parts
  clear hb
  go_wp2_with fail
  (with_reducible refine (K2.out _).mono ?_)
  rintro e w2 ⟨rfl, hb⟩
  have D2 := RowD.keep hb (RowD.alloc D1 _)
  have N2 := Row4.keep hb (Row4.new _ _ _ _ _)
  have hw2 : Below w.heap.size w w2 := btr (bal hw1 _) hb
  have hl2 := N2.lt
  have hl3 := D2.lt
  clear D1 hb hw1 c0 c1 c2 g0 g1 g2
  obtain ⟨c0, c1, c2, g0, g1, g2⟩ := D2.parts
  obtain ⟨q0, q1, q2, q3, s0, s1, s2, s3⟩ := N2.parts
  go_wp2
  go_ret2
  exact ⟨rfl, bsc4 hw2 (by omega) _ _ _ _⟩
set_option maxHeartbeats 1000000 in
theorem plain_of (g : Bool) (D : ByteArray) (p : Int) (n q : Nat) (x : Int) (hp : p < 0) (hpl : -20000 ≤ p) (w : World)
    (k1 : ∀ W, Calls Tryz.prog 171 #[.string D] W fun e w' => e = .returned (.tuple #[N4 n, .bool true]) ∧ Below W.heap.size W w')
    (k2 : ∀ W, Calls Tryz.prog 172 #[N4 n, .int .i64 (-p)] W fun e w' => e = .returned (.tuple #[N4 q, .bool true]) ∧ Below W.heap.size W w')
    (k3 : ∀ W, Below w.heap.size w W → Calls Tryz.prog 173 #[I5 g q] W fun e w' => e = .returned (.tuple #[.int .u64 x, .bool false]) ∧ Below W.heap.size W w') :
    Calls Tryz.prog 127 #[DV g D p] w fun e w' => e = .returned (.tuple #[.int .u64 0, .bool false]) ∧ Below w.heap.size w w' := by
  have K1 := Lib.hid k1; have K2 := Lib.hid k2; have K3 := Lib.hid k3; clear k1 k2 k3
  go_enter Tryz.func127, Tryz.ntmps127
  go_wp2_with fail
  (with_reducible refine (K1.out _).mono ?_)
  rintro e w1 ⟨rfl, hb⟩
  have D1 := RowD.keep hb (RowD.new w (.bool g) (.string D) (.int .i64 p))
  have hw1 : Below w.heap.size w w1 := btr (bal (Below.refl _ _) _) hb
  have hl0 := D1.lt
  obtain ⟨c0, c1, c2, g0, g1, g2⟩ := D1.parts
  clear hb
  go_wp2_with fail
  (with_reducible refine (K2.out _).mono ?_)
  rintro e w2 ⟨rfl, hb⟩
  have D2 := RowD.keep hb (RowD.alloc D1 _)
  have N2 := Row4.keep hb (Row4.new _ _ _ _ _)
  have hw2 : Below w.heap.size w w2 := btr (bal hw1 _) hb
  have hl2 := N2.lt
  have hl3 := D2.lt
  clear D1 hb hw1 c0 c1 c2 g0 g1 g2
  obtain ⟨c0, c1, c2, g0, g1, g2⟩ := D2.parts
  obtain ⟨q0, q1, q2, q3, s0, s1, s2, s3⟩ := N2.parts
  have hwX := bsc4 hw2 (b := w1.heap.size) (by omega) (.int .u64 (lb 0 q)) (.int .u64 (lb 1 q)) (.int .u64 (lb 2 q)) (.int .u64 (lb 3 q))
  have hdX : RowD ((((w2.setCell ⟨w1.heap.size, 0, none⟩ (.int .u64 (lb 0 q))).setCell ⟨w1.heap.size, 1, none⟩ (.int .u64 (lb 1 q))).setCell ⟨w1.heap.size, 2, none⟩ (.int .u64 (lb 2 q))).setCell ⟨w1.heap.size, 3, none⟩ (.int .u64 (lb 3 q))) w.heap.size (.bool g) (.string D) (.int .i64 p) := RowD.set (RowD.set (RowD.set (RowD.set D2 (by omega) _) (by omega) _) (by omega) _) (by omega) _
  have HWX := Lib.hid hwX; have HDX := Lib.hid hdX
  clear hwX hdX
  go_wp2_with fail
  (with_reducible refine (K3.out _ HWX.out).mono ?_)
  rintro e w3 ⟨rfl, hb⟩
  have D3 := RowD.keep hb HDX.out
  have hw3 : Below w.heap.size w w3 := btr HWX.out hb
  have hl4 := D3.lt
  clear hb HWX HDX D2 N2 hw2 c0 c1 c2 g0 g1 g2 q0 q1 q2 q3 s0 s1 s2 s3
  obtain ⟨c0, c1, c2, g0, g1, g2⟩ := D3.parts
  go_wp2
  go_ret2
  exact ⟨rfl, hw3⟩
set_option maxHeartbeats 1000000 in
theorem plain_yes (g : Bool) (D : ByteArray) (p : Int) (n q : Nat) (x y c : Int) (hp : p < 0) (hpl : -20000 ≤ p) (w : World)
    (k1 : ∀ W, Calls Tryz.prog 171 #[.string D] W fun e w' => e = .returned (.tuple #[N4 n, .bool true]) ∧ Below W.heap.size W w')
    (k2 : ∀ W, Calls Tryz.prog 172 #[N4 n, .int .i64 (-p)] W fun e w' => e = .returned (.tuple #[N4 q, .bool true]) ∧ Below W.heap.size W w')
    (k3 : ∀ W, Below w.heap.size w W → Calls Tryz.prog 173 #[I5 g q] W fun e w' => e = .returned (.tuple #[.int .u64 x, .bool true]) ∧ Below W.heap.size W w')
    (k4 : ∀ W, Calls Tryz.prog 65 #[.int .u64 x, .int .i64 p] W fun e w' => e = .returned (.int .u64 y) ∧ Below W.heap.size W w')
    (k5 : ∀ W, Below w.heap.size w W → Calls Tryz.prog 59 #[.int .u64 y] W fun e w' => e = .returned (.int .i64 c) ∧ Below W.heap.size W w') :
    Calls Tryz.prog 127 #[DV g D p] w fun e w' => e = .returned (.tuple #[.int .u64 y, .bool (c == 1)]) ∧ Below w.heap.size w w' := by
  have K1 := Lib.hid k1; have K2 := Lib.hid k2; have K3 := Lib.hid k3; have K4 := Lib.hid k4; have K5 := Lib.hid k5; clear k1 k2 k3 k4 k5
  go_enter Tryz.func127, Tryz.ntmps127
  go_wp2_with fail
  (with_reducible refine (K1.out _).mono ?_)
  rintro e w1 ⟨rfl, hb⟩
  have D1 := RowD.keep hb (RowD.new w (.bool g) (.string D) (.int .i64 p))
  have hw1 : Below w.heap.size w w1 := btr (bal (Below.refl _ _) _) hb
  have hl0 := D1.lt
  obtain ⟨c0, c1, c2, g0, g1, g2⟩ := D1.parts
  clear hb
  go_wp2_with fail
  (with_reducible refine (K2.out _).mono ?_)
  rintro e w2 ⟨rfl, hb⟩
  have D2 := RowD.keep hb (RowD.alloc D1 _)
  have N2 := Row4.keep hb (Row4.new _ _ _ _ _)
  have hw2 : Below w.heap.size w w2 := btr (bal hw1 _) hb
  have hl2 := N2.lt
  have hl3 := D2.lt
  clear D1 hb hw1 c0 c1 c2 g0 g1 g2
  obtain ⟨c0, c1, c2, g0, g1, g2⟩ := D2.parts
  obtain ⟨q0, q1, q2, q3, s0, s1, s2, s3⟩ := N2.parts
  have hwX := bsc4 hw2 (b := w1.heap.size) (by omega) (.int .u64 (lb 0 q)) (.int .u64 (lb 1 q)) (.int .u64 (lb 2 q)) (.int .u64 (lb 3 q))
  have hdX : RowD ((((w2.setCell ⟨w1.heap.size, 0, none⟩ (.int .u64 (lb 0 q))).setCell ⟨w1.heap.size, 1, none⟩ (.int .u64 (lb 1 q))).setCell ⟨w1.heap.size, 2, none⟩ (.int .u64 (lb 2 q))).setCell ⟨w1.heap.size, 3, none⟩ (.int .u64 (lb 3 q))) w.heap.size (.bool g) (.string D) (.int .i64 p) := RowD.set (RowD.set (RowD.set (RowD.set D2 (by omega) _) (by omega) _) (by omega) _) (by omega) _
  have HWX := Lib.hid hwX; have HDX := Lib.hid hdX
  clear hwX hdX
  go_wp2_with fail
  (with_reducible refine (K3.out _ HWX.out).mono ?_)
  rintro e w3 ⟨rfl, hb⟩
  have D3 := RowD.keep hb HDX.out
  have hw3 : Below w.heap.size w w3 := btr HWX.out hb
  have hl4 := D3.lt
  clear hb HWX HDX D2 N2 hw2 c0 c1 c2 g0 g1 g2 q0 q1 q2 q3 s0 s1 s2 s3
  obtain ⟨c0, c1, c2, g0, g1, g2⟩ := D3.parts
  go_wp2_with fail
  (with_reducible refine (K4.out _).mono ?_)
  rintro e w4 ⟨rfl, hb⟩
  have hw4 : Below w.heap.size w w4 := btr hw3 hb
  clear hb
  go_wp2_with fail
  (with_reducible refine (K5.out _ hw4).mono ?_)
  rintro e w5 ⟨rfl, hb⟩
  have hw5 : Below w.heap.size w w5 := btr hw4 hb
  clear hb
  go_wp2
  go_ret2
  exact ⟨rfl, hw5⟩
end Go.Proofs.YtebfggiodhaahaaGreatDoor
end
section
namespace Go.Proofs.YtebfggiodhaahaaGreatDoor
open Go.RowKit Go.Shelf

/-- A block that holds a value of the model. -/
def RowV (W : World) (b : Nat) (v0 v1 v2 v3 v4 v5 v6 v7 v8 v9 : Value) : Prop := W.heap[b]? = some (.cells #[v0, v1, v2, v3, v4, v5, v6, v7, v8, v9] 32 (0, 0))
theorem RowV.lt {W : World} {b : Nat} {v0 v1 v2 v3 v4 v5 v6 v7 v8 v9 : Value} (h : RowV W b v0 v1 v2 v3 v4 v5 v6 v7 v8 v9) : b < W.heap.size := by
  unfold RowV at h
  exact (Array.getElem?_eq_some_iff.1 h).1
theorem RowV.new (W : World) (v0 v1 v2 v3 v4 v5 v6 v7 v8 v9 : Value) : RowV (W.alloc (.cells #[v0, v1, v2, v3, v4, v5, v6, v7, v8, v9] 32)) W.heap.size v0 v1 v2 v3 v4 v5 v6 v7 v8 v9 := heap_alloc_new W _
theorem RowV.keep {W W' : World} {b : Nat} {v0 v1 v2 v3 v4 v5 v6 v7 v8 v9 : Value} (hb : Below W.heap.size W W') (h : RowV W b v0 v1 v2 v3 v4 v5 v6 v7 v8 v9) : RowV W' b v0 v1 v2 v3 v4 v5 v6 v7 v8 v9 := (hb.block b h.lt).trans h
theorem RowV.alloc {W : World} {b : Nat} {v0 v1 v2 v3 v4 v5 v6 v7 v8 v9 : Value} (h : RowV W b v0 v1 v2 v3 v4 v5 v6 v7 v8 v9) (o : Obj) : RowV (W.alloc o) b v0 v1 v2 v3 v4 v5 v6 v7 v8 v9 := (Below.heap_alloc W o b h.lt).trans h
theorem RowV.parts {W : World} {b : Nat} {v0 v1 v2 v3 v4 v5 v6 v7 v8 v9 : Value} (h : RowV W b v0 v1 v2 v3 v4 v5 v6 v7 v8 v9) :
    W.cell? ⟨b, 0, none⟩ = some v0 ∧ W.cell? ⟨b, 1, none⟩ = some v1 ∧ W.cell? ⟨b, 2, none⟩ = some v2 ∧ W.cell? ⟨b, 3, none⟩ = some v3 ∧ W.cell? ⟨b, 4, none⟩ = some v4 ∧ W.cell? ⟨b, 5, none⟩ = some v5 ∧ W.cell? ⟨b, 6, none⟩ = some v6 ∧ W.cell? ⟨b, 7, none⟩ = some v7 ∧ W.cell? ⟨b, 8, none⟩ = some v8 ∧ W.cell? ⟨b, 9, none⟩ = some v9 :=
  ⟨cell_of_row W b 0 _ _ _ h, cell_of_row W b 1 _ _ _ h, cell_of_row W b 2 _ _ _ h, cell_of_row W b 3 _ _ _ h, cell_of_row W b 4 _ _ _ h, cell_of_row W b 5 _ _ _ h, cell_of_row W b 6 _ _ _ h, cell_of_row W b 7 _ _ _ h, cell_of_row W b 8 _ _ _ h, cell_of_row W b 9 _ _ _ h⟩
theorem RowV.free {W : World} {b : Nat} {v0 v1 v2 v3 v4 v5 v6 v7 v8 v9 : Value} (h : RowV W b v0 v1 v2 v3 v4 v5 v6 v7 v8 v9) :
    W.frozen? ⟨b, 0, none⟩ = false ∧ W.frozen? ⟨b, 1, none⟩ = false ∧ W.frozen? ⟨b, 2, none⟩ = false ∧ W.frozen? ⟨b, 3, none⟩ = false ∧ W.frozen? ⟨b, 4, none⟩ = false ∧ W.frozen? ⟨b, 5, none⟩ = false ∧ W.frozen? ⟨b, 6, none⟩ = false ∧ W.frozen? ⟨b, 7, none⟩ = false ∧ W.frozen? ⟨b, 8, none⟩ = false ∧ W.frozen? ⟨b, 9, none⟩ = false :=
  ⟨frozen_of_row W b 0 _ _ h, frozen_of_row W b 1 _ _ h, frozen_of_row W b 2 _ _ h, frozen_of_row W b 3 _ _ h, frozen_of_row W b 4 _ _ h, frozen_of_row W b 5 _ _ h, frozen_of_row W b 6 _ _ h, frozen_of_row W b 7 _ _ h, frozen_of_row W b 8 _ _ h, frozen_of_row W b 9 _ _ h⟩
theorem RowV.setAll {W : World} {b : Nat} {v0 v1 v2 v3 v4 v5 v6 v7 v8 v9 : Value} (h : RowV W b v0 v1 v2 v3 v4 v5 v6 v7 v8 v9) (u0 u1 u2 u3 u4 u5 u6 u7 u8 u9 : Value) :
    RowV (((((((((((W).setCell ⟨b, 0, none⟩ u0).setCell ⟨b, 1, none⟩ u1).setCell ⟨b, 2, none⟩ u2).setCell ⟨b, 3, none⟩ u3).setCell ⟨b, 4, none⟩ u4).setCell ⟨b, 5, none⟩ u5).setCell ⟨b, 6, none⟩ u6).setCell ⟨b, 7, none⟩ u7).setCell ⟨b, 8, none⟩ u8).setCell ⟨b, 9, none⟩ u9) b u0 u1 u2 u3 u4 u5 u6 u7 u8 u9 := by
  unfold RowV at *
  have h0 := heap_setCell_same _ b 0 _ _ u0 h
  have h1 := heap_setCell_same _ b 1 _ _ u1 h0
  have h2 := heap_setCell_same _ b 2 _ _ u2 h1
  have h3 := heap_setCell_same _ b 3 _ _ u3 h2
  have h4 := heap_setCell_same _ b 4 _ _ u4 h3
  have h5 := heap_setCell_same _ b 5 _ _ u5 h4
  have h6 := heap_setCell_same _ b 6 _ _ u6 h5
  have h7 := heap_setCell_same _ b 7 _ _ u7 h6
  have h8 := heap_setCell_same _ b 8 _ _ u8 h7
  have h9 := heap_setCell_same _ b 9 _ _ u9 h8
  simpa using h9
theorem bsc10 {w X : World} (h : Below w.heap.size w X) {b : Nat} (hb : w.heap.size ≤ b) (u0 u1 u2 u3 u4 u5 u6 u7 u8 u9 : Value) :
    Below w.heap.size w (((((((((((X).setCell ⟨b, 0, none⟩ u0).setCell ⟨b, 1, none⟩ u1).setCell ⟨b, 2, none⟩ u2).setCell ⟨b, 3, none⟩ u3).setCell ⟨b, 4, none⟩ u4).setCell ⟨b, 5, none⟩ u5).setCell ⟨b, 6, none⟩ u6).setCell ⟨b, 7, none⟩ u7).setCell ⟨b, 8, none⟩ u8).setCell ⟨b, 9, none⟩ u9) :=
  bsc (bsc (bsc (bsc (bsc (bsc (bsc (bsc (bsc (bsc h hb _) hb _) hb _) hb _) hb _) hb _) hb _) hb _) hb _) hb _
/-- A value of the model: a kind, a whole number, bits. -/
abbrev VV (k : Int) (g : Bool) (x : Nat) (y : Int) : Value := .agg #[.int .i64 k, .bool g, .int .u64 (lb 0 x), .int .u64 (lb 1 x), .int .u64 (lb 2 x), .int .u64 (lb 3 x), .int .u64 y, .string ⟨#[]⟩, .slice none 0 0, .slice none 0 0]
abbrev VZ : Value := .agg #[.int .i64 0, .bool false, .int .u64 0, .int .u64 0, .int .u64 0, .int .u64 0, .int .u64 0, .string ⟨#[]⟩, .slice none 0 0, .slice none 0 0]
set_option maxHeartbeats 2000000 in
theorem dparse_long (s : ByteArray) (hs : 400 < (s.size : Int)) (w : World)
     :
    Calls Tryz.prog 78 #[.string s] w fun e w' => e = .returned (.tuple #[.agg #[.int .i64 0, .bool false, .int .u64 0, .int .u64 0, .int .u64 0, .int .u64 0, .int .u64 0, .string ⟨#[]⟩, .slice none 0 0, .slice none 0 0], .int .i64 8]) ∧ Below w.heap.size w w' := by
  go_enter Tryz.func78, Tryz.ntmps78
  go_wp2
  exact bodyPost_ret (v := .tuple #[VZ, .int .i64 8]) (by simp [results, Tryz.results78, go_sem]) rfl ⟨rfl, by repeat (first | (with_reducible exact Below.refl _ _) | (with_reducible refine bal ?_ _))⟩
set_option maxHeartbeats 2000000 in
theorem dparse_syn (s : ByteArray) (hs : (s.size : Int) ≤ 400) (w : World)
    (k1 : ∀ W, Calls Tryz.prog 125 #[.string s] W fun e w' => e = .returned (.tuple #[DV false ⟨#[]⟩ 0, .bool false]) ∧ Below W.heap.size W w') :
    Calls Tryz.prog 78 #[.string s] w fun e w' => e = .returned (.tuple #[.agg #[.int .i64 0, .bool false, .int .u64 0, .int .u64 0, .int .u64 0, .int .u64 0, .int .u64 0, .string ⟨#[]⟩, .slice none 0 0, .slice none 0 0], .int .i64 3]) ∧ Below w.heap.size w w' := by
  have K1 := Lib.hid k1; clear k1
  go_enter Tryz.func78, Tryz.ntmps78
  go_wp2_with fail
  (with_reducible refine (K1.out _).mono ?_)
  rintro e w1 ⟨rfl, hb⟩
  have V1 := RowV.keep hb (RowV.new w (.int .i64 0) (.bool false) (.int .u64 0) (.int .u64 0) (.int .u64 0) (.int .u64 0) (.int .u64 0) (.string ⟨#[]⟩) (.slice none 0 0) (.slice none 0 0))
  have hw1 : Below w.heap.size w w1 := btr (bal (Below.refl _ _) _) hb
  have hl1 := V1.lt
  clear hb
  obtain ⟨r0, r1, r2, r3, r4, r5, r6, r7, r8, r9⟩ := V1.parts
  obtain ⟨f0, f1, f2, f3, f4, f5, f6, f7, f8, f9⟩ := V1.free
  have R := RowV.alloc (RowV.setAll V1 (.int .i64 0) (.bool false) (.int .u64 0) (.int .u64 0) (.int .u64 0) (.int .u64 0) (.int .u64 0) (.string ⟨#[]⟩) (.slice none 0 0) (.slice none 0 0)) (.cells #[.bool false, .string ⟨#[]⟩, .int .i64 0] 155)
  have S := Lib.hid R.parts
  clear R
  go_wp2
  obtain ⟨s0, s1, s2, s3, s4, s5, s6, s7, s8, s9⟩ := S.out
  exact bodyPost_ret (v := .tuple #[.agg #[.int .i64 0, .bool false, .int .u64 0, .int .u64 0, .int .u64 0, .int .u64 0, .int .u64 0, .string ⟨#[]⟩, .slice none 0 0, .slice none 0 0], .int .i64 3]) (by simp [results, Tryz.results78, go_sem, s0, s1, s2, s3, s4, s5, s6, s7, s8, s9]) rfl ⟨rfl, bal (bsc10 hw1 (Nat.le_refl _) _ _ _ _ _ _ _ _ _ _) _⟩
set_option maxHeartbeats 2000000 in
theorem dparse_int (s : ByteArray) (g h : Bool) (D : ByteArray) (p : Int) (x : Nat) (hs : (s.size : Int) ≤ 400) (w : World)
    (k1 : ∀ W, Calls Tryz.prog 125 #[.string s] W fun e w' => e = .returned (.tuple #[DV g D p, .bool true]) ∧ Below W.heap.size W w')
    (k2 : ∀ W, Below w.heap.size w W → Calls Tryz.prog 126 #[DV g D p] W fun e w' => e = .returned (.tuple #[I5 h x, .bool true]) ∧ Below W.heap.size W w') :
    Calls Tryz.prog 78 #[.string s] w fun e w' => e = .returned (.tuple #[.agg #[.int .i64 3, .bool h, .int .u64 (lb 0 x), .int .u64 (lb 1 x), .int .u64 (lb 2 x), .int .u64 (lb 3 x), .int .u64 0, .string ⟨#[]⟩, .slice none 0 0, .slice none 0 0], .int .i64 0]) ∧ Below w.heap.size w w' := by
  have K1 := Lib.hid k1; have K2 := Lib.hid k2; clear k1 k2
  go_enter Tryz.func78, Tryz.ntmps78
  go_wp2_with fail
  (with_reducible refine (K1.out _).mono ?_)
  rintro e w1 ⟨rfl, hb⟩
  have V1 := RowV.keep hb (RowV.new w (.int .i64 0) (.bool false) (.int .u64 0) (.int .u64 0) (.int .u64 0) (.int .u64 0) (.int .u64 0) (.string ⟨#[]⟩) (.slice none 0 0) (.slice none 0 0))
  have hw1 : Below w.heap.size w w1 := btr (bal (Below.refl _ _) _) hb
  have hl1 := V1.lt
  clear hb
  go_wp2_with fail
  (with_reducible refine (K2.out _ (by repeat (first | (with_reducible exact hw1) | (with_reducible refine bal ?_ _)))).mono ?_)
  rintro e w2 ⟨rfl, hb⟩
  have V2 := RowV.keep hb (RowV.alloc V1 _)
  have D2 := RowD.keep hb (RowD.new _ _ _ _)
  have hw2 : Below w.heap.size w w2 := btr (bal hw1 _) hb
  have hl2 := V2.lt
  have hl3 := D2.lt
  clear hb V1 hw1
  obtain ⟨c0, c1, c2, g0, g1, g2⟩ := D2.parts
  obtain ⟨r0, r1, r2, r3, r4, r5, r6, r7, r8, r9⟩ := V2.parts
  obtain ⟨f0, f1, f2, f3, f4, f5, f6, f7, f8, f9⟩ := V2.free
  have R := RowV.alloc (RowV.setAll V2 (.int .i64 3) (.bool h) (.int .u64 (lb 0 x)) (.int .u64 (lb 1 x)) (.int .u64 (lb 2 x)) (.int .u64 (lb 3 x)) (.int .u64 0) (.string ⟨#[]⟩) (.slice none 0 0) (.slice none 0 0)) (.cells #[.bool h, .int .u64 (lb 0 x), .int .u64 (lb 1 x), .int .u64 (lb 2 x), .int .u64 (lb 3 x)] 28)
  have S := Lib.hid R.parts
  clear R
  go_wp2
  obtain ⟨s0, s1, s2, s3, s4, s5, s6, s7, s8, s9⟩ := S.out
  exact bodyPost_ret (v := .tuple #[.agg #[.int .i64 3, .bool h, .int .u64 (lb 0 x), .int .u64 (lb 1 x), .int .u64 (lb 2 x), .int .u64 (lb 3 x), .int .u64 0, .string ⟨#[]⟩, .slice none 0 0, .slice none 0 0], .int .i64 0]) (by simp [results, Tryz.results78, go_sem, s0, s1, s2, s3, s4, s5, s6, s7, s8, s9]) rfl ⟨rfl, bal (bsc10 hw2 (Nat.le_refl _) _ _ _ _ _ _ _ _ _ _) _⟩
set_option maxHeartbeats 2000000 in
theorem dparse_float (s : ByteArray) (g h : Bool) (D : ByteArray) (p y : Int) (x : Nat) (hs : (s.size : Int) ≤ 400) (w : World)
    (k1 : ∀ W, Calls Tryz.prog 125 #[.string s] W fun e w' => e = .returned (.tuple #[DV g D p, .bool true]) ∧ Below W.heap.size W w')
    (k2 : ∀ W, Below w.heap.size w W → Calls Tryz.prog 126 #[DV g D p] W fun e w' => e = .returned (.tuple #[I5 h x, .bool false]) ∧ Below W.heap.size W w')
    (k3 : ∀ W, Below w.heap.size w W → Calls Tryz.prog 127 #[DV g D p] W fun e w' => e = .returned (.tuple #[.int .u64 y, .bool true]) ∧ Below W.heap.size W w') :
    Calls Tryz.prog 78 #[.string s] w fun e w' => e = .returned (.tuple #[.agg #[.int .i64 4, .bool false, .int .u64 0, .int .u64 0, .int .u64 0, .int .u64 0, .int .u64 y, .string ⟨#[]⟩, .slice none 0 0, .slice none 0 0], .int .i64 0]) ∧ Below w.heap.size w w' := by
  have K1 := Lib.hid k1; have K2 := Lib.hid k2; have K3 := Lib.hid k3; clear k1 k2 k3
  go_enter Tryz.func78, Tryz.ntmps78
  go_wp2_with fail
  (with_reducible refine (K1.out _).mono ?_)
  rintro e w1 ⟨rfl, hb⟩
  have V1 := RowV.keep hb (RowV.new w (.int .i64 0) (.bool false) (.int .u64 0) (.int .u64 0) (.int .u64 0) (.int .u64 0) (.int .u64 0) (.string ⟨#[]⟩) (.slice none 0 0) (.slice none 0 0))
  have hw1 : Below w.heap.size w w1 := btr (bal (Below.refl _ _) _) hb
  have hl1 := V1.lt
  clear hb
  go_wp2_with fail
  (with_reducible refine (K2.out _ (by repeat (first | (with_reducible exact hw1) | (with_reducible refine bal ?_ _)))).mono ?_)
  rintro e w2 ⟨rfl, hb⟩
  have V2 := RowV.keep hb (RowV.alloc V1 _)
  have D2 := RowD.keep hb (RowD.new _ _ _ _)
  have hw2 : Below w.heap.size w w2 := btr (bal hw1 _) hb
  have hl2 := V2.lt
  have hl3 := D2.lt
  clear hb V1 hw1
  obtain ⟨c0, c1, c2, g0, g1, g2⟩ := D2.parts
  go_wp2_with fail
  (with_reducible refine (K3.out _ (by repeat (first | (with_reducible exact hw2) | (with_reducible refine bal ?_ _)))).mono ?_)
  rintro e w3 ⟨rfl, hb⟩
  have V3 := RowV.keep hb (RowV.alloc V2 _)
  have hw3 : Below w.heap.size w w3 := btr (bal hw2 _) hb
  have hl4 := V3.lt
  clear hb V2 hw2
  obtain ⟨r0, r1, r2, r3, r4, r5, r6, r7, r8, r9⟩ := V3.parts
  obtain ⟨f0, f1, f2, f3, f4, f5, f6, f7, f8, f9⟩ := V3.free
  have R := RowV.setAll V3 (.int .i64 4) (.bool false) (.int .u64 0) (.int .u64 0) (.int .u64 0) (.int .u64 0) (.int .u64 y) (.string ⟨#[]⟩) (.slice none 0 0) (.slice none 0 0)
  have S := Lib.hid R.parts
  clear R
  go_wp2
  obtain ⟨s0, s1, s2, s3, s4, s5, s6, s7, s8, s9⟩ := S.out
  exact bodyPost_ret (v := .tuple #[.agg #[.int .i64 4, .bool false, .int .u64 0, .int .u64 0, .int .u64 0, .int .u64 0, .int .u64 y, .string ⟨#[]⟩, .slice none 0 0, .slice none 0 0], .int .i64 0]) (by simp [results, Tryz.results78, go_sem, s0, s1, s2, s3, s4, s5, s6, s7, s8, s9]) rfl ⟨rfl, bsc10 hw3 (Nat.le_refl _) _ _ _ _ _ _ _ _ _ _⟩
set_option maxHeartbeats 2000000 in
theorem dparse_unrep (s : ByteArray) (g h : Bool) (D : ByteArray) (p y : Int) (x : Nat) (hs : (s.size : Int) ≤ 400) (w : World)
    (k1 : ∀ W, Calls Tryz.prog 125 #[.string s] W fun e w' => e = .returned (.tuple #[DV g D p, .bool true]) ∧ Below W.heap.size W w')
    (k2 : ∀ W, Below w.heap.size w W → Calls Tryz.prog 126 #[DV g D p] W fun e w' => e = .returned (.tuple #[I5 h x, .bool false]) ∧ Below W.heap.size W w')
    (k3 : ∀ W, Below w.heap.size w W → Calls Tryz.prog 127 #[DV g D p] W fun e w' => e = .returned (.tuple #[.int .u64 y, .bool false]) ∧ Below W.heap.size W w') :
    Calls Tryz.prog 78 #[.string s] w fun e w' => e = .returned (.tuple #[.agg #[.int .i64 0, .bool false, .int .u64 0, .int .u64 0, .int .u64 0, .int .u64 0, .int .u64 0, .string ⟨#[]⟩, .slice none 0 0, .slice none 0 0], .int .i64 5]) ∧ Below w.heap.size w w' := by
  have K1 := Lib.hid k1; have K2 := Lib.hid k2; have K3 := Lib.hid k3; clear k1 k2 k3
  go_enter Tryz.func78, Tryz.ntmps78
  go_wp2_with fail
  (with_reducible refine (K1.out _).mono ?_)
  rintro e w1 ⟨rfl, hb⟩
  have V1 := RowV.keep hb (RowV.new w (.int .i64 0) (.bool false) (.int .u64 0) (.int .u64 0) (.int .u64 0) (.int .u64 0) (.int .u64 0) (.string ⟨#[]⟩) (.slice none 0 0) (.slice none 0 0))
  have hw1 : Below w.heap.size w w1 := btr (bal (Below.refl _ _) _) hb
  have hl1 := V1.lt
  clear hb
  go_wp2_with fail
  (with_reducible refine (K2.out _ (by repeat (first | (with_reducible exact hw1) | (with_reducible refine bal ?_ _)))).mono ?_)
  rintro e w2 ⟨rfl, hb⟩
  have V2 := RowV.keep hb (RowV.alloc V1 _)
  have D2 := RowD.keep hb (RowD.new _ _ _ _)
  have hw2 : Below w.heap.size w w2 := btr (bal hw1 _) hb
  have hl2 := V2.lt
  have hl3 := D2.lt
  clear hb V1 hw1
  obtain ⟨c0, c1, c2, g0, g1, g2⟩ := D2.parts
  go_wp2_with fail
  (with_reducible refine (K3.out _ (by repeat (first | (with_reducible exact hw2) | (with_reducible refine bal ?_ _)))).mono ?_)
  rintro e w3 ⟨rfl, hb⟩
  have V3 := RowV.keep hb (RowV.alloc V2 _)
  have hw3 : Below w.heap.size w w3 := btr (bal hw2 _) hb
  have hl4 := V3.lt
  clear hb V2 hw2
  obtain ⟨r0, r1, r2, r3, r4, r5, r6, r7, r8, r9⟩ := V3.parts
  obtain ⟨f0, f1, f2, f3, f4, f5, f6, f7, f8, f9⟩ := V3.free
  have R := RowV.setAll V3 (.int .i64 0) (.bool false) (.int .u64 0) (.int .u64 0) (.int .u64 0) (.int .u64 0) (.int .u64 0) (.string ⟨#[]⟩) (.slice none 0 0) (.slice none 0 0)
  have S := Lib.hid R.parts
  clear R
  go_wp2
  obtain ⟨s0, s1, s2, s3, s4, s5, s6, s7, s8, s9⟩ := S.out
  exact bodyPost_ret (v := .tuple #[.agg #[.int .i64 0, .bool false, .int .u64 0, .int .u64 0, .int .u64 0, .int .u64 0, .int .u64 0, .string ⟨#[]⟩, .slice none 0 0, .slice none 0 0], .int .i64 5]) (by simp [results, Tryz.results78, go_sem, s0, s1, s2, s3, s4, s5, s6, s7, s8, s9]) rfl ⟨rfl, bsc10 hw3 (Nat.le_refl _) _ _ _ _ _ _ _ _ _ _⟩
end Go.Proofs.YtebfggiodhaahaaGreatDoor
end
section
namespace Go.Proofs.YtebfggiodhaahaaGreatDoor
open Go.RowKit Go.Shelf Ieee

/-- A product of a normal word by a power of two's word. -/
theorem mul_two (g : Bool) {d : Nat} {t p : Int} (h : d ≠ 0) (hl : d.log2 ≤ 52) (h0 : -1022 ≤ t + (d.log2 : Nat)) (h1 : t + (d.log2 : Nat) ≤ 1023) (p0 : -1022 ≤ p) (p1 : p ≤ 1023) (h2 : -1022 ≤ t + p + (d.log2 : Nat)) (h3 : t + p + (d.log2 : Nat) ≤ 1023) :
    double.mul (g.toNat * 9223372036854775808 + nr d t) ((p + 1023).toNat * 4503599627370496) = some (g.toNat * 9223372036854775808 + nr d (t + p)) := by
  obtain ⟨s1, s2, s3, s4, s5⟩ := nr_spec h hl h0 h1
  have hI : INF = 9218868437227405312 := rfl
  have r1 := read_word double g (nr d t) (by rw [dbl_inf]; omega) (by rw [dbl_sign]; omega)
  have r2 := read_word double false ((p + 1023).toNat * 4503599627370496) (by rw [dbl_inf]; omega) (by rw [dbl_sign]; omega)
  rw [dbl_word, s2, s3] at r1
  rw [dbl_word, Bool.toNat_false, Nat.zero_mul, Nat.zero_add] at r2
  have m2 : mg double ((p + 1023).toNat * 4503599627370496) = 2 ^ 52 := by
    unfold mg
    rw [dbl_binade, if_neg (by omega), show (2 : Nat) ^ 52 = 4503599627370496 from by decide]
    omega
  have l2 : pl double ((p + 1023).toNat * 4503599627370496) = p - 52 := by
    unfold pl
    rw [dbl_binade, dbl_least, if_neg (by omega)]
    omega
  rw [m2, l2] at r2
  unfold Format.mul
  rw [r1, r2]
  show some (double.write (.number (g ^^ false) (d * 2 ^ (52 - d.log2) * 2 ^ 52) (t - ((52 - d.log2 : Nat) : Int) + (p - 52)))) = _
  rw [Bool.xor_false]
  show some (double.nearest g (d * 2 ^ (52 - d.log2) * 2 ^ 52) (t - ((52 - d.log2 : Nat) : Int) + (p - 52))) = _
  have e1 : d * 2 ^ (52 - d.log2) * 2 ^ 52 = d * 2 ^ (52 - d.log2 + 52) := by rw [Nat.mul_assoc, Nat.pow_add]
  have e2 : t - ((52 - d.log2 : Nat) : Int) + (p - 52) = (t + p) - ((52 - d.log2 + 52 : Nat) : Int) := by omega
  rw [e1, e2, near_scale, near_dbl g h hl h2 h3]
set_option maxRecDepth 1000000 in
theorem dscaled_core (x z : Nat) (p : Int) (t : Nat) (hT : (1023 + p) * 4503599627370496 = (t : Int)) (hm : double.mul x t = some z) (p0 : -1022 ≤ p) (p1 : p ≤ 1023) (w : World) :
    Calls Tryz.prog 65 #[.int .u64 (x : Int), .int .i64 p] w fun e w' => e = .returned (.int .u64 (z : Int)) ∧ w' = w := by
  have hb := fun W => f64bits z W
  have hf := fun W => f64from x W
  have hg := fun W => f64from t W
  have hfa : ∀ W, (binOp .mul 134 (.float .f64 x) (.float .f64 t)).run Tryz.prog W = .ok (.float .f64 z) W := fun W => by
    have : FloatKind.f64.format.mul x t = some z := hm
    simp [binOp, Op.floatArith, this]
  clear hm
  go_enter Tryz.func65, Tryz.ntmps65
  go_wp2
  go_ret
  exact ⟨rfl, rfl⟩
theorem dscaled_any (g : Bool) {d : Nat} {t p : Int} (h : d ≠ 0) (hl : d.log2 ≤ 52) (h0 : -1022 ≤ t + (d.log2 : Nat)) (h1 : t + (d.log2 : Nat) ≤ 1023) (p0 : -1022 ≤ p) (p1 : p ≤ 1000) (h2 : -1022 ≤ t + p + (d.log2 : Nat)) (h3 : t + p + (d.log2 : Nat) ≤ 1023) (w : World) :
    Calls Tryz.prog 65 #[.int .u64 ((g.toNat * 9223372036854775808 + nr d t : Nat) : Int), .int .i64 p] w fun e w' => e = .returned (.int .u64 ((g.toNat * 9223372036854775808 + nr d (t + p) : Nat) : Int)) ∧ w' = w := by
  refine dscaled_core _ _ p ((p + 1023).toNat * 4503599627370496) ?_ (mul_two g h hl h0 h1 p0 (by omega) h2 h3) p0 (by omega) w
  omega
end Go.Proofs.YtebfggiodhaahaaGreatDoor
end
