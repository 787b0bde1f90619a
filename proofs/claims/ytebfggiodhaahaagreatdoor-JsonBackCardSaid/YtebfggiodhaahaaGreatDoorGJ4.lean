/-
  JsPu JsEsc JsBuild JsTextR JsOff JsRd JsRv JsRa JsArrE JsRany JsDoc, one behind the other: a claim holds at most 60 files.
-/
import Derived.Test.YtebfggiodhaahaaGreatDoorGJ3
import Derived.Test.YtebfggiodhaahaaGreatDoorShelf
import Derived.Lib.ConvBytes
import Derived.Test.YtebfggiodhaahaaGreatDoorGU
import Derived.Test.YtebfggiodhaahaaGreatDoorButFrame
import Derived.Test.YtebfggiodhaahaaGreatDoorOwnRow
import Derived.Shelf.Strings.BuilderK
import Derived.Test.YtebfggiodhaahaaGreatDoorGV
import Derived.Deep.AppendLies
import Derived.Deep.RegionHeld3
section
namespace Go.Proofs.YtebfggiodhaahaaGreatDoor
open Go.RowKit Go.Shelf
set_option linter.unusedVariables false

theorem But.drewJ {N B : Nat} {a w : World} (h : But N B a w) : But N B a w.drew := ⟨h.os, h.tape, h.output, h.size, h.block⟩
/-- A digit of sixteen, of either case. -/
def hexd (c : UInt8) : Option Nat :=
  if 48 ≤ c.toNat ∧ c.toNat ≤ 57 then some (c.toNat - 48) else if 97 ≤ c.toNat ∧ c.toNat ≤ 102 then some (c.toNat - 87) else if 65 ≤ c.toNat ∧ c.toNat ≤ 70 then some (c.toNat - 55) else none
def hexs : List UInt8 → Nat → Option Nat
  | [], n => some n
  | c :: l, n => match hexd c with
    | some d => hexs l (n * 16 + d)
    | none => none
theorem hexs_cons {c : UInt8} {l : List UInt8} {n v : Nat} (h : hexs (c :: l) n = some v) : ∃ d, hexd c = some d ∧ hexs l (n * 16 + d) = some v := by
  unfold hexs at h
  split at h
  · exact ⟨_, by assumption, h⟩
  · cases h
theorem hexd_cases {c : UInt8} {d : Nat} (h : hexd c = some d) : (48 ≤ c.toNat ∧ c.toNat ≤ 57 ∧ d = c.toNat - 48) ∨ (97 ≤ c.toNat ∧ c.toNat ≤ 102 ∧ d = c.toNat - 87) ∨ (65 ≤ c.toNat ∧ c.toNat ≤ 70 ∧ d = c.toNat - 55) := by
  unfold hexd at h
  split at h
  · have := Option.some.inj h; omega
  · split at h
    · have := Option.some.inj h; omega
    · split at h
      · have := Option.some.inj h; omega
      · cases h
theorem low_all : ∀ n ∈ List.range 256, (97 ≤ n ∧ n ≤ 102 → bits .or .u8 (n : Int) 32 = (n : Int)) ∧ (65 ≤ n ∧ n ≤ 70 → bits .or .u8 (n : Int) 32 = (n : Int) + 32) := by decide +kernel
theorem hexs_lt : ∀ {l : List UInt8} {n v : Nat}, hexs l n = some v → v < (n + 1) * 16 ^ l.length := by
  intro l
  induction l with
  | nil => intro n v h; have := Option.some.inj h; simp; omega
  | cons c l ih =>
    intro n v h
    obtain ⟨d, hd, h2⟩ := hexs_cons h
    have h3 := ih h2
    have h4 : d ≤ 15 := by have := hexd_cases hd; omega
    rw [List.length_cons, Nat.pow_succ]
    have h5 : (n * 16 + d + 1) * 16 ^ l.length ≤ ((n + 1) * 16) * 16 ^ l.length := Nat.mul_le_mul_right _ (by omega)
    rw [Nat.mul_assoc, Nat.mul_comm 16] at h5
    omega
theorem below_bytes (w : World) (e : TypeId) (s : ByteArray) : Below w.heap.size w (Lib.bytesWorld w e s) :=
  ⟨rfl, rfl, rfl, by rw [Lib.bytesWorld_size]; omega, fun k hk => Lib.bytesWorld_at_old w e s k hk⟩
set_option maxRecDepth 100000 in
set_option maxHeartbeats 4000000 in
theorem pu_inner (L : List UInt8) (hL : L.length = 4) (v : Nat) (hv : hexs L 0 = some v) (w : World) :
    Calls Tryz.prog 206 #[.string (str L), .int .i64 16, .int .i64 16] w fun e w' => e = .returned (.tuple #[.int .u64 (v : Int), .nilIface]) ∧ Below w.heap.size w w' := by
  have hss : (str L).size = 4 := by rw [str_size]; exact hL
  have hcv := Lib.run_convert_string_bytes (P := Tryz.prog) w 9 22 5 (str L) (u := .string) (by kernel_rfl) (by kernel_rfl) (by kernel_rfl)
  have hB : ∀ j (c : UInt8), L[j]? = some c → (Lib.bytesWorld w 5 (str L)).cell? ⟨w.heap.size, j, none⟩ = some (.int .u8 (c.toNat : Int)) := fun j c hj => by
    have hlt := (List.getElem?_eq_some_iff.1 hj).1
    have := Lib.bytesWorld_cell w 5 (str L) j (by rw [str_size]; exact hlt)
    rw [str_data, List.getD_eq_getElem?_getD, hj] at this
    exact this
  have hbw := below_bytes w 5 (str L)
  have e1 : (str L).toList.isEmpty = false := by rw [str_toList]; cases L with | nil => simp at hL | cons c t => rfl
  have e2 : ¬ (str L).toList = [] := by rw [str_toList]; intro h; rw [h] at hL; simp at hL
  obtain ⟨W1, hW1⟩ : ∃ W1, Lib.bytesWorld w 5 (str L) = W1 := ⟨_, rfl⟩
  rw [hW1] at hcv hB hbw
  have HB := Lib.hid hB; have HBW := Lib.hid hbw; have HV := Lib.hid hv; have HL := Lib.hid hL
  rw [hss] at hcv
  generalize str L = S at *
  clear hW1 hB hbw hv hL
  have hmv : IntKind.u64.wrap (IntKind.u64.wrap 65536 - 1) = 65535 := by
    rw [IntKind.wrap_u64, IntKind.wrap_u64]
    decide
  go_enter Tryz.func206, Tryz.ntmps206
  go_wp2
  go_loopw [12, 13, 101] (fun vu vn vi wr => ∃ (k : Nat) (a : Int), vu = .bool false ∧ vn = .int .u64 a ∧ vi = .int .i64 k ∧ k ≤ 4 ∧ Hid (∃ acc : Nat, a = (acc : Int) ∧ acc < 16 ^ k ∧ hexs (L.drop k) acc = some v) ∧ wr = W1) (fun _ _ vi _ => 4 - (intOf vi).toNat)
  case atStart => exact ⟨0, 0, rfl, rfl, rfl, by omega, (show Hid _ from ⟨0, rfl, by decide, HV.out⟩), rfl⟩
  case round =>
    obtain ⟨k, a, rfl, rfl, rfl, hk, HH, rfl⟩ := hrel
    obtain ⟨acc, ha, hacc, hx⟩ := HH.out
    clear HH
    by_cases hkn : k < 4
    · obtain ⟨c, hc⟩ : ∃ c, L[k]? = some c := ⟨_, List.getElem?_eq_getElem (by rw [HL.out]; exact hkn)⟩
      have hcell := HB.out k c hc
      have hdrop : L.drop k = c :: L.drop (k + 1) := by
        obtain ⟨h1, h2⟩ := List.getElem?_eq_some_iff.1 hc
        rw [List.drop_eq_getElem_cons h1, h2]
      rw [hdrop] at hx
      obtain ⟨d, hd, hx2⟩ := hexs_cons hx
      have hp3 : 16 ^ k ≤ 4096 := Nat.le_trans (Nat.pow_le_pow_right (by decide) (show k ≤ 3 by omega)) (by decide)
      have a0 : 0 ≤ a := by omega
      have a1 : a ≤ 4095 := by omega
      have hd15 : d ≤ 15 := by have := hexd_cases hd; omega
      have HN : Hid (∃ acc2 : Nat, a * 16 + (d : Int) = (acc2 : Int) ∧ acc2 < 16 ^ (k + 1) ∧ hexs (L.drop (k + 1)) acc2 = some v) := Lib.hid ⟨acc * 16 + d, by omega, by rw [Nat.pow_succ]; omega, hx2⟩
      have hkn2 : (k : Int) < 4 := by omega
      obtain ⟨C, hC⟩ : ∃ C : Int, (c.toNat : Int) = C := ⟨_, rfl⟩
      have hc256 := c.toNat_lt
      rw [hC] at hcell
      rcases hexd_cases hd with ⟨h1, h2, h3⟩ | hlet
      · have c1 : 48 ≤ C := by omega
        have c2 : C ≤ 57 := by omega
        have c3 : (C == 95) = false := by rw [beq_eq_false_iff_ne]; omega
        have HD : Hid (C - 48 = (d : Int)) := Lib.hid (by omega)
        have iov : a * 16 + (C - 48) ≤ 65535 := by omega
        clear hx hx2 hd h1 h2 h3 hC hc hdrop hc256 ha hacc hd15 hp3
        go_wp2
        refine ⟨⟨k + 1, a * 16 + (C - 48), (by first | rfl | trivial), (by first | rfl | trivial | (congr 1; omega)), (by first | rfl | trivial | (congr 1; omega)), by omega, ?_, (by first | rfl | trivial)⟩, by simp [intOf]; omega⟩
        show Hid _
        rw [HD.out]
        exact HN
      · obtain ⟨Z, hZ⟩ : ∃ Z : Int, bits .or .u8 C 32 = Z := ⟨_, rfl⟩
        have hz : 97 ≤ Z ∧ Z ≤ 102 ∧ Z - 87 = (d : Int) := by
          have h9 := low_all c.toNat (List.mem_range.2 hc256)
          rw [hC, hZ] at h9
          rcases hlet with ⟨h1, h2, h3⟩ | ⟨h1, h2, h3⟩
          · have := h9.1 ⟨h1, h2⟩; omega
          · have := h9.2 ⟨h1, h2⟩; omega
        have KL : Hid (∀ W, Calls Tryz.prog 221 #[.int .u8 C] W fun e w' => e = .returned (.int .u8 Z) ∧ w' = W) := Lib.hid (fun W => by rw [← hZ]; exact Tryz.internal_strconv_lower C W)
        have c1 : 48 ≤ C := by omega
        have c2 : ¬ C ≤ 57 := by omega
        have c3 : (C == 95) = false := by rw [beq_eq_false_iff_ne]; omega
        obtain ⟨z1, z2, z3⟩ := hz
        have z4 : Z ≤ 122 := by omega
        have HD : Hid (Z - 97 + 10 = (d : Int)) := Lib.hid (by omega)
        have iov : a * 16 + (Z - 97 + 10) ≤ 65535 := by omega
        clear hx hx2 hd hC hc hdrop hc256 ha hacc hd15 hlet hZ hp3 z3
        go_wp2_with (go_at_call 221; ((with_reducible refine (KL.out _).mono ?_); rintro e w' ⟨rfl, rfl⟩))
        refine ⟨⟨k + 1, a * 16 + (Z - 97 + 10), (by first | rfl | trivial), (by first | rfl | trivial | (congr 1; omega)), (by first | rfl | trivial | (congr 1; omega)), by omega, ?_, (by first | rfl | trivial)⟩, by simp [intOf]; omega⟩
        show Hid _
        rw [HD.out]
        exact HN
    · obtain rfl : k = 4 := by omega
      have HE : Hid (a = (v : Int)) := Lib.hid (by
        rw [List.drop_eq_nil_of_le (by rw [HL.out]; exact Nat.le_refl _)] at hx
        have := Option.some.inj hx
        omega)
      clear hx ha hacc
      go_wp2
      go_ret2
      exact ⟨by rw [HE.out]; rfl, HBW.out⟩
set_option maxRecDepth 100000 in
theorem pu_any (L : List UInt8) (hL : L.length = 4) (v : Nat) (hv : hexs L 0 = some v) (w : World) :
    Calls Tryz.prog 187 #[.string (str L), .int .i64 16, .int .i64 16] w fun e w' => e = .returned (.tuple #[.int .u64 (v : Int), .nilIface]) ∧ Below w.heap.size w w' := by
  have H := Lib.hid (pu_inner L hL v hv w)
  generalize str L = S at *
  go_enter Tryz.func187, Tryz.ntmps187
  go_wp2_with (go_at_call 206; ((with_reducible refine H.out.mono ?_); rintro e w1 ⟨rfl, hb⟩))
  go_ret2
  exact ⟨rfl, hb⟩
set_option maxRecDepth 100000 in
/-- code: four digits of sixteen. -/
theorem rcode_ok (l : List UInt8) (hl4 : 4 ≤ l.length) (hl : l.length ≤ 140737488351232) (v : Nat) (hv : hexs (l.take 4) 0 = some v) (b : Nat) (lg un : Bool) (w : World) (h : Jr w b (str l) lg un) :
    Calls Tryz.prog 159 #[.pointer (some ⟨b, 0, none⟩)] w fun e w' => e = .returned (.tuple #[.int .i64 (v : Int), .bool true]) ∧ Jr w' b (str (l.drop 4)) lg un ∧ But w.heap.size b w w' := by
  have hlen4 : (l.take 4).length = 4 := by rw [List.length_take]; omega
  have hv2 : v < 65536 := by
    have := hexs_lt hv
    rw [hlen4] at this
    simpa using this
  have KP := Lib.hid (fun W => pu_any (l.take 4) hlen4 v hv W)
  have ht : (str l).extract 0 4 = str (l.take 4) := str_take l 4
  have HD := Lib.hid (str_drop l 4)
  have hss : (str l).size = l.length := str_size l
  have h4 : 4 ≤ (str l).size := by omega
  have h5 : (str l).size ≤ 140737488351232 := by omega
  rw [← ht] at KP
  obtain ⟨p0, p1, p2, f0, f1, f2⟩ := h.parts
  have hlt := h.lt
  have H := Lib.hid h
  obtain ⟨V, hV⟩ : ∃ V : Int, (v : Int) = V := ⟨_, rfl⟩
  rw [hV] at KP ⊢
  have hv0 : 0 ≤ V := by omega
  have hv3 : V ≤ 65535 := by omega
  clear h hl4 hl hv hlen4 hv2 ht hss hV
  generalize str (l.drop 4) = R at *
  generalize str l = S at *
  go_enter Tryz.func159, Tryz.ntmps159
  go_wp2_with (go_at_call 187; ((with_reducible refine (KP.out _).mono ?_); rintro e w1 ⟨rfl, hb⟩; have H1 := Lib.hid (H.out.keep hb); obtain ⟨q0, q1, q2, g0, g1, g2⟩ := H1.out.parts; have hB1 := Lib.hid (But.of (B := b) hb); have hl1 := H1.out.lt; clear hb))
  go_region
  all_goals
    go_wp2
    go_ret2
    exact ⟨rfl, by rw [← HD.out]; exact H1.out.rest _, (hB1.out.store _ _).drewJ⟩
end Go.Proofs.YtebfggiodhaahaaGreatDoor
end
section
namespace Go.Proofs.YtebfggiodhaahaaGreatDoor
open Go.RowKit Go.Shelf
set_option linter.unusedVariables false

theorem str_of (s : ByteArray) : str s.data.toList = s := str_ext (str_data _)
/-- A code point's bytes; none for what is no code point. -/
def up (c : Nat) : List UInt8 := (uput (c : Int)).data.toList
/-- A code point by its digits, or by those of a pair of surrogates. -/
def jpnt (l : List UInt8) : Option (List UInt8 × List UInt8) :=
  if 4 ≤ l.length then
    match hexs (l.take 4) 0 with
    | none => none
    | some v =>
      if v / 1024 = 54 then
        (if Lib.hasPrefix (l.drop 4) [92, 117] ∧ 4 ≤ ((l.drop 4).drop 2).length then
          match hexs (((l.drop 4).drop 2).take 4) 0 with
          | some u => if u / 1024 = 55 then some (up (65536 + (v - 55296) * 1024 + (u - 56320)), ((l.drop 4).drop 2).drop 4) else none
          | none => none
        else none)
      else if zlng (v : Int) = 0 then none else some (up v, l.drop 4)
  else none
def jesm : List (UInt8 × UInt8) := [(34, 34), (92, 92), (98, 8), (102, 12), (110, 10), (114, 13), (116, 9), (47, 47)]
/-- What is meant behind a backslash. -/
def jesd (l : List UInt8) : Option (List UInt8 × List UInt8) :=
  match l with
  | [] => none
  | c :: t => if c = 117 then jpnt t else match jesm.find? (fun p => p.1 = c) with
    | some p => some ([p.2], t)
    | none => none
set_option maxRecDepth 100000 in
set_option maxHeartbeats 2000000 in
theorem rpt_plain (l : List UInt8) (hl : l.length ≤ 140737488351232) (hl4 : 4 ≤ l.length) (v : Nat) (hv : hexs (l.take 4) 0 = some v) (hs : v / 1024 ≠ 54) (hz : zlng (v : Int) ≠ 0) (b : Nat) (lg un : Bool) (w : World) (h : Jr w b (str l) lg un) :
    Calls Tryz.prog 118 #[.pointer (some ⟨b, 0, none⟩)] w fun e w' => e = .returned (.tuple #[.string (str (up v)), .bool true]) ∧ Jr w' b (str (l.drop 4)) lg un ∧ But w.heap.size b w w' := by
  have KC := Lib.hid (rcode_ok l hl4 hl v hv b lg un w h)
  have KS : Hid (∀ W, Calls Tryz.prog 160 #[.int .i64 (v : Int), .int .i64 55296] W fun e w' => e = .returned (.bool false) ∧ w' = W) := Lib.hid (fun W => by
    have h9 := issur_any v 55296 W
    rw [show decide (v / 1024 = 55296 / 1024) = false from decide_eq_false hs] at h9
    exact h9)
  have KP := Lib.hid (fun W => put_any (v : Int) W)
  have hU : uput (v : Int) = str (up v) := by unfold up; exact (str_of _).symm
  have hne : ¬ (str (up v)).toList = [] := by
    rw [str_toList]; unfold up; rw [uput_some hz]; intro hc
    have := uenc_len (c := v) (by rw [zlng_nat] at hz; exact hz)
    rw [Int.toNat_natCast] at hc
    rw [show uenc v = [] from hc] at this
    rw [zlng_nat] at hz
    exact hz this.symm
  have hne2 : (str (up v)).toList.isEmpty = false := by rw [List.isEmpty_eq_false_iff]; exact hne
  rw [hU] at KP
  obtain ⟨V, hV⟩ : ∃ V : Int, (v : Int) = V := ⟨_, rfl⟩
  rw [hV] at KC KS KP
  clear h hl hl4 hv hs hz hU hV
  generalize str (up v) = U at *
  go_enter Tryz.func118, Tryz.ntmps118
  go_wp2_with (first
    | (go_at_call 159; ((with_reducible refine (KC.out).mono ?_); rintro e w1 ⟨rfl, hj, hb⟩; have H1 := Lib.hid hj; have B1 := Lib.hid hb; clear hj hb))
    | (go_at_call 160; ((with_reducible refine (KS.out _).mono ?_); rintro e w2 ⟨rfl, rfl⟩))
    | (go_at_call 161; ((with_reducible refine (KP.out _).mono ?_); rintro e w3 ⟨rfl, rfl⟩)))
  go_ret2
  exact ⟨rfl, H1.out, B1.out⟩
set_option maxRecDepth 100000 in
set_option maxHeartbeats 2000000 in
theorem rpt_pair (l : List UInt8) (hl : l.length ≤ 140737488351232) (hl4 : 4 ≤ l.length) (v : Nat) (hv : hexs (l.take 4) 0 = some v) (hs : v / 1024 = 54) (hp : Lib.hasPrefix (l.drop 4) [92, 117] = true) (hl2 : 4 ≤ ((l.drop 4).drop 2).length) (u : Nat) (hu : hexs (((l.drop 4).drop 2).take 4) 0 = some u) (hs2 : u / 1024 = 55) (b : Nat) (lg un : Bool) (w : World) (h : Jr w b (str l) lg un) :
    Calls Tryz.prog 118 #[.pointer (some ⟨b, 0, none⟩)] w fun e w' => e = .returned (.tuple #[.string (str (up (65536 + (v - 55296) * 1024 + (u - 56320)))), .bool true]) ∧ Jr w' b (str (((l.drop 4).drop 2).drop 4)) lg un ∧ But w.heap.size b w w' := by
  have KC := Lib.hid (rcode_ok l hl4 hl v hv b lg un w h)
  have KS : Hid (∀ W, Calls Tryz.prog 160 #[.int .i64 (v : Int), .int .i64 55296] W fun e w' => e = .returned (.bool true) ∧ w' = W) := Lib.hid (fun W => by
    have h9 := issur_any v 55296 W
    rw [show decide (v / 1024 = 55296 / 1024) = true from decide_eq_true hs] at h9
    exact h9)
  have KT : Hid (∀ W, Calls Tryz.prog 160 #[.int .i64 (u : Int), .int .i64 56320] W fun e w' => e = .returned (.bool true) ∧ w' = W) := Lib.hid (fun W => by
    have h9 := issur_any u 56320 W
    rw [show decide (u / 1024 = 56320 / 1024) = true from decide_eq_true hs2] at h9
    exact h9)
  have hl3 : ((l.drop 4).drop 2).length ≤ 140737488351232 := by rw [List.length_drop, List.length_drop]; omega
  have hl5 : (l.drop 4).length ≤ 140737488351232 := by rw [List.length_drop]; omega
  have KU := Lib.hid (fun W (hW : Jr W b (str (l.drop 4)) lg un) => rcut_any (l.drop 4) ⟨#[92, 117]⟩ hl5 b lg un W hW)
  have hcut : cutp (l.drop 4) (⟨#[92, 117]⟩ : ByteArray).data.toList = ((l.drop 4).drop 2, true) := by unfold cutp; rw [show (⟨#[92, 117]⟩ : ByteArray).data.toList = [92, 117] from rfl, hp]; rfl
  rw [hcut] at KU
  have KD := Lib.hid (fun W (hW : Jr W b (str ((l.drop 4).drop 2)) lg un) => rcode_ok ((l.drop 4).drop 2) hl2 hl3 u hu b lg un W hW)
  have hvv : 55296 ≤ v ∧ v ≤ 56319 := by omega
  have huu : 56320 ≤ u ∧ u ≤ 57343 := by omega
  obtain ⟨c, hc⟩ : ∃ c, 65536 + (v - 55296) * 1024 + (u - 56320) = c := ⟨_, rfl⟩
  have hc2 : 65536 ≤ c ∧ c ≤ 1114111 := by omega
  have hz : zlng (c : Int) ≠ 0 := by rw [zlng_nat]; unfold ulng; rw [if_neg (by omega), if_neg (by omega), if_neg (by omega), if_neg (by omega)]; decide
  have KP := Lib.hid (fun W => put_any (c : Int) W)
  have hU : uput (c : Int) = str (up c) := by unfold up; exact (str_of _).symm
  have hne : ¬ (str (up c)).toList = [] := by
    rw [str_toList]; unfold up; rw [uput_some hz]; intro hc
    have := uenc_len (c := c) (by rw [zlng_nat] at hz; exact hz)
    rw [Int.toNat_natCast] at hc
    rw [show uenc c = [] from hc] at this
    rw [zlng_nat] at hz
    exact hz this.symm
  have hne2 : (str (up c)).toList.isEmpty = false := by rw [List.isEmpty_eq_false_iff]; exact hne
  rw [hU] at KP
  rw [hc]
  obtain ⟨V, hV⟩ : ∃ V : Int, (v : Int) = V := ⟨_, rfl⟩
  obtain ⟨Y, hY⟩ : ∃ Y : Int, (u : Int) = Y := ⟨_, rfl⟩
  have hcI : 65536 + (V - 55296) * 1024 + (Y - 56320) = (c : Int) := by omega
  have HCI := Lib.hid hcI
  have v1 : 55296 ≤ V := by omega
  have v2 : V ≤ 56319 := by omega
  have y1 : 56320 ≤ Y := by omega
  have y2 : Y ≤ 57343 := by omega
  rw [← hcI] at KP
  rw [hV] at KC KS
  rw [hY] at KD KT
  clear h hl hl4 hv hs hp hl2 hu hs2 hl3 hl5 hcut hvv huu hc2 hz hU hV hY hc hcI
  generalize str (up c) = U at *
  go_enter Tryz.func118, Tryz.ntmps118
  go_wp2_with (first
    | (go_at_call 159; ((with_reducible refine (KC.out).mono ?_); rintro e w1 ⟨rfl, hj, hb⟩; have H1 := Lib.hid hj; have B1 := Lib.hid hb; clear hj hb))
    | (go_at_call 160; ((with_reducible refine (KS.out _).mono ?_); rintro e w2 ⟨rfl, rfl⟩))
    | (go_at_call 160; ((with_reducible refine (KT.out _).mono ?_); rintro e w2 ⟨rfl, rfl⟩))
    | (go_at_call 70; ((with_reducible refine (KU.out _ H1.out).mono ?_); rintro e w4 ⟨rfl, hj, hb⟩; have H4 := Lib.hid hj; have B4 := Lib.hid (B1.out.seq hb); clear hj hb))
    | (go_at_call 159; ((with_reducible refine (KD.out _ H4.out).mono ?_); rintro e w5 ⟨rfl, hj, hb⟩; have H5 := Lib.hid hj; have B5 := Lib.hid (B4.out.seq hb); clear hj hb))
    | (go_at_call 161; ((with_reducible refine (KP.out _).mono ?_); rintro e w3 ⟨rfl, rfl⟩)))
  go_ret2
  exact ⟨rfl, H5.out, B5.out⟩
theorem rpt_ok (l : List UInt8) (hl : l.length ≤ 140737488351232) (p r : List UInt8) (hj : jpnt l = some (p, r)) (b : Nat) (lg un : Bool) (w : World) (h : Jr w b (str l) lg un) :
    Calls Tryz.prog 118 #[.pointer (some ⟨b, 0, none⟩)] w fun e w' => e = .returned (.tuple #[.string (str p), .bool true]) ∧ Jr w' b (str r) lg un ∧ But w.heap.size b w w' := by
  unfold jpnt at hj
  split at hj
  · rename_i hl4
    split at hj
    · cases hj
    · rename_i v hv
      split at hj
      · rename_i hs
        split at hj
        · rename_i hp
          split at hj
          · rename_i u hu
            split at hj
            · rename_i hs2
              have := Option.some.inj hj
              simp only [Prod.mk.injEq] at this
              obtain ⟨rfl, rfl⟩ := this
              exact rpt_pair l hl hl4 v hv hs hp.1 hp.2 u hu hs2 b lg un w h
            · cases hj
          · cases hj
        · cases hj
      · rename_i hs
        split at hj
        · cases hj
        · rename_i hz
          have := Option.some.inj hj
          simp only [Prod.mk.injEq] at this
          obtain ⟨rfl, rfl⟩ := this
          exact rpt_plain l hl hl4 v hv hs hz b lg un w h
  · cases hj
set_option maxRecDepth 100000 in
set_option maxHeartbeats 2000000 in
theorem resc_letter (c m : UInt8) (K : Int) (hk : (c = 34 ∧ m = 34 ∧ K = 0) ∨ (c = 92 ∧ m = 92 ∧ K = 1) ∨ (c = 98 ∧ m = 8 ∧ K = 2) ∨ (c = 102 ∧ m = 12 ∧ K = 3) ∨ (c = 110 ∧ m = 10 ∧ K = 4) ∨ (c = 114 ∧ m = 13 ∧ K = 5) ∨ (c = 116 ∧ m = 9 ∧ K = 6) ∨ (c = 47 ∧ m = 47 ∧ K = 7))
    (t : List UInt8) (hl : (c :: t).length ≤ 140737488351232) (b : Nat) (lg un : Bool) (w : World) (h : Jr w b (str (c :: t)) lg un) :
    Calls Tryz.prog 73 #[.pointer (some ⟨b, 0, none⟩)] w fun e w' => e = .returned (.tuple #[.string (str [m]), .bool true]) ∧ Jr w' b (str t) lg un ∧ But w.heap.size b w w' := by
  have hc117 : Lib.hasPrefix (c :: t) [117] = false := by
    rcases hk with ⟨rfl, _⟩ | ⟨rfl, _⟩ | ⟨rfl, _⟩ | ⟨rfl, _⟩ | ⟨rfl, _⟩ | ⟨rfl, _⟩ | ⟨rfl, _⟩ | ⟨rfl, _⟩ <;> rfl
  have KU := Lib.hid (rcut_any (c :: t) ⟨#[117]⟩ hl b lg un w h)
  have hcut : cutp (c :: t) (⟨#[117]⟩ : ByteArray).data.toList = (c :: t, false) := by unfold cutp; rw [show (⟨#[117]⟩ : ByteArray).data.toList = [117] from rfl, hc117]; rfl
  rw [hcut] at KU
  have KI : Hid (∀ W, Calls Tryz.prog 113 #[.string ⟨#[34, 92, 98, 102, 110, 114, 116, 47]⟩, .int .u8 (c.toNat : Int)] W fun e w' => e = .returned (.int .i64 K) ∧ w' = W) := Lib.hid (fun W => by
    have := Tryz.strings_IndexByte ⟨#[34, 92, 98, 102, 110, 114, 116, 47]⟩ (c.toNat : Int) W
    rcases hk with ⟨rfl, _, rfl⟩ | ⟨rfl, _, rfl⟩ | ⟨rfl, _, rfl⟩ | ⟨rfl, _, rfl⟩ | ⟨rfl, _, rfl⟩ | ⟨rfl, _, rfl⟩ | ⟨rfl, _, rfl⟩ | ⟨rfl, _, rfl⟩ <;> exact this)
  obtain ⟨e1, e2, e3, e4, e5⟩ := cons_facts8 c t
  have hsz : (str (c :: t)).size ≤ 140737488351232 := by rw [str_size]; exact hl
  have h1s : 1 ≤ (str (c :: t)).size := e3
  have HT := Lib.hid e5
  have e6 := e4 e3
  obtain ⟨C, hC⟩ : ∃ C : Int, (c.toNat : Int) = C := ⟨_, rfl⟩
  rw [hC] at KI
  have hidx : (((str (c :: t))[0]'e3).toNat : Int) = C := by rw [e6]; exact hC
  have hkm : (m = 34 ∧ K = 0) ∨ (m = 92 ∧ K = 1) ∨ (m = 8 ∧ K = 2) ∨ (m = 12 ∧ K = 3) ∨ (m = 10 ∧ K = 4) ∨ (m = 13 ∧ K = 5) ∨ (m = 9 ∧ K = 6) ∨ (m = 47 ∧ K = 7) := by
    rcases hk with ⟨_, h⟩ | ⟨_, h⟩ | ⟨_, h⟩ | ⟨_, h⟩ | ⟨_, h⟩ | ⟨_, h⟩ | ⟨_, h⟩ | ⟨_, h⟩ <;> simp [h]
  clear hk h hl hc117 hcut e4 e5 e6 hC
  generalize str (c :: t) = S at *
  go_enter Tryz.func73, Tryz.ntmps73
  go_wp2_with fail
  ((with_reducible refine (KU.out).mono ?_); rintro e w1 ⟨rfl, hj, hb⟩; have H1 := Lib.hid hj; have B1 := Lib.hid hb; clear hj hb)
  obtain ⟨q0, q1, q2, g0, g1, g2⟩ := H1.out.parts
  have hl1 := H1.out.lt
  rcases hkm with ⟨rfl, rfl⟩ | ⟨rfl, rfl⟩ | ⟨rfl, rfl⟩ | ⟨rfl, rfl⟩ | ⟨rfl, rfl⟩ | ⟨rfl, rfl⟩ | ⟨rfl, rfl⟩ | ⟨rfl, rfl⟩
  all_goals
    go_wp2_with (go_at_call 113; ((with_reducible refine (KI.out _).mono ?_); rintro e w2 ⟨rfl, rfl⟩))
    go_ret2
    exact ⟨by rfl, by rw [← HT.out]; exact H1.out.rest _, B1.out.store _ _⟩
set_option maxRecDepth 100000 in
theorem resc_u (t p r : List UInt8) (hl : (117 :: t : List UInt8).length ≤ 140737488351232) (hj : jpnt t = some (p, r)) (b : Nat) (lg un : Bool) (w : World) (h : Jr w b (str (117 :: t)) lg un) :
    Calls Tryz.prog 73 #[.pointer (some ⟨b, 0, none⟩)] w fun e w' => e = .returned (.tuple #[.string (str p), .bool true]) ∧ Jr w' b (str r) lg un ∧ But w.heap.size b w w' := by
  have KU := Lib.hid (rcut_any (117 :: t) ⟨#[117]⟩ hl b lg un w h)
  have hcut : cutp (117 :: t) (⟨#[117]⟩ : ByteArray).data.toList = (t, true) := by unfold cutp; rw [show (⟨#[117]⟩ : ByteArray).data.toList = [117] from rfl, show Lib.hasPrefix (117 :: t) [117] = true from rfl]; rfl
  rw [hcut] at KU
  have KP := Lib.hid (fun W (hW : Jr W b (str t) lg un) => rpt_ok t (by rw [List.length_cons] at hl; omega) p r hj b lg un W hW)
  clear h hl hj hcut
  go_enter Tryz.func73, Tryz.ntmps73
  go_wp2_with (first
    | (go_at_call 70; ((with_reducible refine (KU.out).mono ?_); rintro e w1 ⟨rfl, hj, hb⟩; have H1 := Lib.hid hj; have B1 := Lib.hid hb; clear hj hb))
    | (go_at_call 118; ((with_reducible refine (KP.out _ H1.out).mono ?_); rintro e w2 ⟨rfl, hj, hb⟩; have H2 := Lib.hid hj; have B2 := Lib.hid (B1.out.seq hb); clear hj hb)))
  go_ret2
  exact ⟨rfl, H2.out, B2.out⟩
/-- escape. -/
theorem resc_ok (l p r : List UInt8) (hl : l.length ≤ 140737488351232) (hj : jesd l = some (p, r)) (b : Nat) (lg un : Bool) (w : World) (h : Jr w b (str l) lg un) :
    Calls Tryz.prog 73 #[.pointer (some ⟨b, 0, none⟩)] w fun e w' => e = .returned (.tuple #[.string (str p), .bool true]) ∧ Jr w' b (str r) lg un ∧ But w.heap.size b w w' := by
  cases l with
  | nil => cases hj
  | cons c t =>
    unfold jesd at hj
    simp only at hj
    split at hj
    · rename_i hc
      subst hc
      exact resc_u t p r hl hj b lg un w h
    · split at hj
      · rename_i q hq
        have := Option.some.inj hj
        simp only [Prod.mk.injEq] at this
        obtain ⟨rfl, rfl⟩ := this
        have hm := List.mem_of_find?_eq_some hq
        have hp := List.find?_some hq
        have hc : q.1 = c := by simpa using hp
        obtain ⟨q1, q2⟩ := q
        simp only at hc ⊢
        subst hc
        unfold jesm at hm
        simp only [List.mem_cons, Prod.mk.injEq, List.not_mem_nil, or_false] at hm
        rcases hm with ⟨rfl, rfl⟩ | ⟨rfl, rfl⟩ | ⟨rfl, rfl⟩ | ⟨rfl, rfl⟩ | ⟨rfl, rfl⟩ | ⟨rfl, rfl⟩ | ⟨rfl, rfl⟩ | ⟨rfl, rfl⟩
        · exact resc_letter _ _ 0 (by simp) t hl b lg un w h
        · exact resc_letter _ _ 1 (by simp) t hl b lg un w h
        · exact resc_letter _ _ 2 (by simp) t hl b lg un w h
        · exact resc_letter _ _ 3 (by simp) t hl b lg un w h
        · exact resc_letter _ _ 4 (by simp) t hl b lg un w h
        · exact resc_letter _ _ 5 (by simp) t hl b lg un w h
        · exact resc_letter _ _ 6 (by simp) t hl b lg un w h
        · exact resc_letter _ _ 7 (by simp) t hl b lg un w h
      · cases hj
end Go.Proofs.YtebfggiodhaahaaGreatDoor
end
section
namespace Go.Proofs.YtebfggiodhaahaaGreatDoor
open Go.RowKit Go.Shelf
set_option linter.unusedVariables false

theorem bsize : (Tryz.prog.info? 90).map (·.size) = some 2 := by kernel_rfl
theorem blies : liesAt Tryz.prog Tryz.prog.depth 90 (2 / Tryz.prog.cellsOf 90) 0 90 1 = true := by kernel_rfl
theorem bptr : Tryz.prog.underlying 88 = some (.pointer 90) := by kernel_rfl
theorem bunsafe : Tryz.prog.underlying 184 = some .unsafePointer := by kernel_rfl
set_option maxRecDepth 100000 in
theorem bcheck_used (b : Nat) (w : World) (h0 : w.cell? ⟨b, 0, none⟩ = some (.pointer (some ⟨b, 0, none⟩))) :
    Calls Tryz.prog 119 #[.pointer (some ⟨b, 0, none⟩)] w fun e w' => e = .returned (.tuple #[]) ∧ w' = w := by
  obtain ⟨j, hj, _⟩ := Option.map_eq_some_iff.1 bsize
  have hn := Lib.run_neq_ptr_same (P := Tryz.prog) w ⟨b, 0, none⟩ bptr hj
  go_enter Tryz.func119, Tryz.ntmps119
  go_wp2
  exact bodyPost_end (v := .tuple #[]) (by simp [results, Tryz.results119, go_sem]) rfl ⟨rfl, rfl⟩
set_option maxRecDepth 100000 in
theorem bcheck_new (b : Nat) (w : World) (h0 : w.cell? ⟨b, 0, none⟩ = some (.pointer none)) (hsh : w.shape? b = some (90, 2)) (hfz : w.frozen? ⟨b, 0, none⟩ = false) :
    Calls Tryz.prog 119 #[.pointer (some ⟨b, 0, none⟩)] w fun e w' => e = .returned (.tuple #[]) ∧ w' = w.setCell ⟨b, 0, none⟩ (.pointer (some ⟨b, 0, none⟩)) := by
  obtain ⟨j, hj, hjs⟩ := Option.map_eq_some_iff.1 bsize
  have hto := Lib.run_to_unsafe (P := Tryz.prog) (w := w) ⟨b, 0, none⟩ bptr bunsafe hj (by rw [hjs]; decide) hsh (Nat.zero_lt_succ 1)
  have hfrom := Lib.run_from_unsafe (P := Tryz.prog) (w := w) ⟨b, 0, none⟩ bunsafe bptr hj hsh blies
  have hn := Lib.run_neq_ptr_same (P := Tryz.prog) (w.setCell ⟨b, 0, none⟩ (.pointer (some ⟨b, 0, none⟩))) ⟨b, 0, none⟩ bptr hj
  go_enter Tryz.func119, Tryz.ntmps119
  go_wp2
  rw [run_callFunc_extern Tryz.func162 (by kernel_rfl) (by kernel_rfl) (by kernel_rfl) (e := Extern.AbiNoEscape.same) (by kernel_rfl)]
  rw [Lib.run_noEscape]
  simp only [Result.andThen]
  rw [Oper.upon_value]
  go_wp2
  exact bodyPost_end (v := .tuple #[]) (by simp [results, Tryz.results119, go_sem]) rfl ⟨rfl, rfl⟩
/-- copyCheck: the builder holds its own address behind it. -/
theorem bcheck (B b : Nat) (bs : List Value) (w : World) (h : Lib.IsBuilderF 90 5 B b bs w) :
    Calls Tryz.prog 119 #[.pointer (some ⟨b, 0, none⟩)] w fun e w' => e = .returned (.tuple #[]) ∧ Lib.BuilderAtF 90 5 B b (.pointer (some ⟨b, 0, none⟩)) bs w' ∧ Below B w w' ∧ Lib.OthersKept 5 (some b) w w' := by
  rcases h with h | h
  · refine (bcheck_new b w h.cell0 h.shape h.frozen0).mono ?_
    rintro e w' ⟨rfl, rfl⟩
    exact ⟨rfl, h.used _, (Below.refl B w).setCell (p := ⟨b, 0, none⟩) h.1 _, (Lib.OthersKept.refl _ _ w).setCell ⟨b, 0, none⟩ rfl _⟩
  · refine (bcheck_used b w h.cell0).mono ?_
    rintro e w' ⟨rfl, rfl⟩
    exact ⟨rfl, h, Below.refl B _, Lib.OthersKept.refl _ _ _⟩
theorem binfo : (Tryz.prog.info? 5).map (fun i => (i.zero, i.size, i.bytes)) = some (some (.int .u8 0), 1, 1) := by kernel_rfl
/-- The two cells of a builder's block. -/
theorem btwo {W : World} {b : Nat} {p u : Value} (h : W.heap[b]? = some (.cells #[p, u] 90 (0, 0))) : b < W.heap.size ∧ W.cell? ⟨b, 0, none⟩ = some p ∧ W.cell? ⟨b, 1, none⟩ = some u ∧ W.frozen? ⟨b, 1, none⟩ = false :=
  ⟨(Array.getElem?_eq_some_iff.1 h).1, cell_of_row W b 0 #[p, u] _ _ h, cell_of_row W b 1 #[p, u] _ _ h, frozen_of_row W b 1 #[p, u] _ h⟩
set_option maxHeartbeats 2000000 in
set_option maxRecDepth 100000 in
/-- WriteString: the text's bytes behind those that were there. -/
theorem bwrite (B b : Nat) (bs : List Value) (s : ByteArray) (w : World) (h : Lib.IsBuilderF 90 5 B b bs w) (hlen : bs.length + s.size ≤ 140737488355328) (hBw : B ≤ w.heap.size) :
    Calls Tryz.prog 74 #[.pointer (some ⟨b, 0, none⟩), .string s] w fun e w' => e = .returned (.tuple #[.int .i64 s.size, .nilIface]) ∧ Lib.BuilderAtF 90 5 B b (.pointer (some ⟨b, 0, none⟩)) (bs ++ Lib.strCells s) w' ∧ Below B w w' ∧ Lib.OthersKept 5 (some b) w w' := by
  obtain ⟨ti, e1, e2, e3, e4⟩ := info_parts binfo
  have HC := Lib.hid (bcheck B b bs w h)
  have HL := Lib.hid hlen; have HBW := Lib.hid hBw
  clear h hlen hBw
  go_enter Tryz.func74, Tryz.ntmps74
  go_wp2_with fail
  ((with_reducible refine HC.out.mono ?_); rintro e w1 ⟨rfl, ⟨lB, u, row, own, far⟩, fr, ok⟩)
  obtain ⟨bl, a0, a1, _⟩ := btwo row
  go_wp2_with (at_builtin; refine Lib.wpList_append_own_stringF _ rfl _ _ 22 9 rfl B 5 ti (by kernel_rfl) (by kernel_rfl) e1 e2 e3 e4 _ _ _ rfl own s rfl (by have := HL.out; unfold maxLen; omega) HL.out (Nat.le_trans HBW.out fr.size) ?_)
  intro u2 w2 own2 gr _
  obtain ⟨_, m0, m1, mf⟩ := btwo ((gr.block b bl fun e => far e.symm).trans row)
  have row2 := (gr.block b bl fun e => far e.symm).trans row
  have sl : ∃ ad k cap, u2 = .slice ad k cap := own2.2.elim (fun h => ⟨_, _, _, h.1⟩) (fun ⟨_, _, _, _, h, _⟩ => ⟨_, _, _, h⟩)
  obtain ⟨ad, k, cap, rfl⟩ := sl
  go_wp2
  go_ret2
  have last := Lib.BuilderAtF.put (T := 90) (e := 5) lB row2 (bs' := bs ++ Lib.strCells s) (by rw [List.length_append, Lib.strCells_length]; exact own2) (by decide)
  exact ⟨rfl, last, (fr.grown gr (Nat.le_trans HBW.out fr.size) (fun i hi => (own.lt i hi).1)).setCell (p := ⟨b, 1, none⟩) lB _, (ok.grown gr (Lib.ownsRowF_kind own)).setCell ⟨b, 1, none⟩ rfl _⟩
end Go.Proofs.YtebfggiodhaahaaGreatDoor
end
section
namespace Go.Proofs.YtebfggiodhaahaaGreatDoor
open Go.RowKit Go.Shelf
set_option linter.unusedVariables false

theorem up_len {c : Nat} : (up c).length ≤ 4 := by
  unfold up
  by_cases h : zlng (c : Int) = 0
  · rw [uput_none h]; decide
  · rw [uput_some h]
    show (uenc _).toArray.toList.length ≤ 4
    rw [Int.toNat_natCast]
    have := uenc_len (c := c) (by rw [zlng_nat] at h; exact h)
    have h4 := ulng_le c
    simp
    omega
theorem jpnt_len {l p r : List UInt8} (h : jpnt l = some (p, r)) : p.length ≤ 4 ∧ r.length + 4 ≤ l.length := by
  unfold jpnt at h
  split at h
  · rename_i hl4
    split at h
    · cases h
    · split at h
      · split at h
        · rename_i hp
          split at h
          · split at h
            · have := Option.some.inj h
              simp only [Prod.mk.injEq] at this
              obtain ⟨rfl, rfl⟩ := this
              exact ⟨up_len, by simp only [List.length_drop]; omega⟩
            · cases h
          · cases h
        · cases h
      · split at h
        · cases h
        · have := Option.some.inj h
          simp only [Prod.mk.injEq] at this
          obtain ⟨rfl, rfl⟩ := this
          exact ⟨up_len, by rw [List.length_drop]; omega⟩
  · cases h
theorem jesd_len {l p r : List UInt8} (h : jesd l = some (p, r)) : p.length + r.length ≤ l.length ∧ r.length < l.length := by
  cases l with
  | nil => cases h
  | cons c t =>
    unfold jesd at h
    simp only at h
    split at h
    · have := jpnt_len h
      rw [List.length_cons]
      omega
    · split at h
      · have := Option.some.inj h
        simp only [Prod.mk.injEq] at this
        obtain ⟨rfl, rfl⟩ := this
        simp
        omega
      · cases h
/-- What a text means from l on, behind x. -/
def jtx : Nat → List UInt8 → List UInt8 → Option (List UInt8 × List UInt8)
  | 0, _, _ => none
  | f + 1, l, x =>
    if unc l < 32 then none
    else if l.take (unn l) = [34] then some (x, l.drop (unn l))
    else if l.take (unn l) = [92] then (match jesd (l.drop (unn l)) with
      | some (p, r) => jtx f r (x ++ p)
      | none => none)
    else jtx f (l.drop (unn l)) (x ++ l.take (unn l))
/-- How much the reader has left. -/
def restJ (W : World) (b : Nat) : Nat := match W.cell? ⟨b, 0, none⟩ with
  | some (.string s) => s.size
  | _ => 0
theorem restJ_jr {W : World} {b : Nat} {l : List UInt8} {lg un : Bool} (h : Jr W b (str l) lg un) : restJ W b = l.length := by
  unfold restJ
  rw [h.parts.1]
  exact str_size l
/-- The reader b has l left, the builder c holds x. -/
structure TJ (B b c : Nat) (lg un : Bool) (l x : List UInt8) (W : World) : Prop where
  cr : Jr W b (str l) lg un
  bu : Lib.IsBuilderF 90 5 B c (Lib.byteCells x) W
  lt : b < B
  le : B ≤ W.heap.size
section
variable {B b c : Nat} {lg un : Bool} {l x : List UInt8} {W W' : World}
theorem bu_butJ {bs : List Value} (h : Lib.IsBuilderF 90 5 B c bs W) (hb : b < B) (k : But W.heap.size b W W') : Lib.IsBuilderF 90 5 B c bs W' := by
  have step : ∀ p, Lib.BuilderAtF 90 5 B c p bs W → Lib.BuilderAtF 90 5 B c p bs W' := by
    intro p hp
    have hl := hp.lt
    obtain ⟨hBc, u, h1, h2, h3⟩ := hp
    refine ⟨hBc, u, (k.block c hl (by omega)).trans h1, ?_, h3⟩
    refine h2.kept (row := some b) ⟨k.os, k.tape, k.output, k.size, fun i hi hne => k.block i hi (fun e => hne (by rw [e]))⟩ (Or.inr fun e => ?_)
    have := (h2.lt b e).1
    omega
  exact h.elim (fun h => Or.inl (step _ h)) (fun h => Or.inr (step _ h))
theorem TJ.but (h : TJ B b c lg un l x W) {r : List UInt8} (hc : Jr W' b (str r) lg un) (k : But W.heap.size b W W') : TJ B b c lg un r x W' := ⟨hc, bu_butJ h.bu h.lt k, h.lt, Nat.le_trans h.le k.size⟩
theorem TJ.wrote (h : TJ B b c lg un l x W) {y : List UInt8} (hc : Lib.IsBuilderF 90 5 B c (Lib.byteCells y) W') (k : Below B W W') (o : Lib.OthersKept 5 (some c) W W') : TJ B b c lg un l y W' := by
  obtain ⟨u, hu⟩ : ∃ u, W.heap[c]? = some (.cells u 90 (0, 0)) := by
    rcases h.bu with ⟨_, v, h1, _⟩ | ⟨_, v, h1, _⟩ <;> exact ⟨_, h1⟩
  exact ⟨(k.block b h.lt).trans h.cr, hc, h.lt, Nat.le_trans h.le k.size⟩
end
theorem But.ofB {M N B : Nat} {w w' : World} (h : Below M w w') (hN : N ≤ M) : But N B w w' := ⟨h.os, h.tape, h.output, h.size, fun k hk _ => h.block k (Nat.lt_of_lt_of_le hk hN)⟩
set_option maxRecDepth 100000 in
set_option maxHeartbeats 4000000 in
theorem rtext_ok (f0 : Nat) (l0 T R : List UInt8) (hl0 : l0.length ≤ 70000000000000) (hj : jtx f0 l0 [] = some (T, R)) (b : Nat) (lg un : Bool) (w : World) (h : Jr w b (str l0) lg un) :
    Calls Tryz.prog 38 #[.pointer (some ⟨b, 0, none⟩)] w fun e w' => e = .returned (.tuple #[.string (str T), .bool true]) ∧ Jr w' b (str R) lg un ∧ But w.heap.size b w w' := by
  have hbw := h.lt
  have HJ := Lib.hid hj
  have T0 : Hid (TJ w.heap.size b w.heap.size lg un l0 [] (w.alloc (.cells #[.pointer none, .slice none 0 0] 90))) := Lib.hid ⟨h.alloc _, Or.inl ⟨Nat.le_refl _, .slice none 0 0, heap_alloc_new _ _, World.ownsRowF_nil _ _ _ _, fun e => by cases e⟩, hbw, by simp⟩
  have B0 : Hid (But w.heap.size b w (w.alloc (.cells #[.pointer none, .slice none 0 0] 90))) := Lib.hid (But.of (bal (Below.refl _ _) _))
  clear hj h
  go_enter Tryz.func38, Tryz.ntmps38
  go_wp2
  go_loopw [5, 6, 7, 8] (fun _ _ _ _ wr => ∃ (f : Nat) (l x : List UInt8), Hid (TJ w.heap.size b w.heap.size lg un l x wr) ∧ Hid (But w.heap.size b w wr) ∧ Hid (jtx f l x = some (T, R)) ∧ x.length + l.length ≤ l0.length) (fun _ _ _ _ wr => restJ wr b)
  case atStart => exact ⟨f0, l0, [], T0, B0, HJ, by simp⟩
  case round =>
    obtain ⟨f, l, x, HT, HB, HX, hxl⟩ := hrel
    clear T0 B0 HJ
    rename World => wr
    have hll : l.length ≤ 140737488351232 := by omega
    obtain ⟨f', rfl⟩ : ∃ f', f = f' + 1 := by
      cases f with
      | zero => exact absurd HX.out (by intro h; cases h)
      | succ f => exact ⟨f, rfl⟩
    have hx := HX.out
    rw [show jtx (f' + 1) l x = (if unc l < 32 then none else if l.take (unn l) = [34] then some (x, l.drop (unn l)) else if l.take (unn l) = [92] then (match jesd (l.drop (unn l)) with | some (p, r) => jtx f' r (x ++ p) | none => none) else jtx f' (l.drop (unn l)) (x ++ l.take (unn l))) from rfl] at hx
    have hc32 : ¬ unc l < 32 := by intro hc; rw [if_pos hc] at hx; cases hx
    rw [if_neg hc32] at hx
    have hne : l ≠ [] := by intro hc; rw [hc] at hc32; exact hc32 (by decide)
    obtain ⟨n1, n4, nl⟩ := unn_pos hne
    have KN : Hid (∀ W, Calls Tryz.prog 71 #[.string (str l), .int .i64 0] W fun e w' => e = .returned (.tuple #[.int .i64 (unc l), .int .i64 (unn l : Nat)]) ∧ w' = W) := Lib.hid (fun W => by
      have h9 := next_any (str l) (by rw [str_size]; omega) 0 W
      have h8 : uat (str l) 0 = l := by rw [show (0 : Int) = ((0 : Nat) : Int) from rfl, uat_nat, str_data, List.drop_zero]
      rw [h8] at h9
      exact h9)
    have hss : (str l).size = l.length := str_size l
    have HD := Lib.hid (str_drop l (unn l))
    have HTK := Lib.hid (str_take l (unn l))
    have hpt : (str (l.take (unn l))).toList = l.take (unn l) := str_toList _
    obtain ⟨q0, q1, q2, g0, g1, g2⟩ := HT.out.cr.parts
    have hlr := HT.out.cr.lt
    have KW := Lib.hid (fun (W : World) (y : List UInt8) (hy : y.length ≤ l0.length) (t : List UInt8) (ht : t.length ≤ l0.length) (hb : Lib.IsBuilderF 90 5 w.heap.size w.heap.size (Lib.byteCells y) W) (hle : w.heap.size ≤ W.heap.size) => bwrite w.heap.size w.heap.size (Lib.byteCells y) (str t) W hb (by rw [Lib.byteCells_length, str_size]; omega) hle)
    have KE := Lib.hid (fun (W : World) (p r : List UInt8) (he : jesd (l.drop (unn l)) = some (p, r)) (hW : Jr W b (str (l.drop (unn l))) lg un) => resc_ok (l.drop (unn l)) p r (by rw [List.length_drop]; omega) he b lg un W hW)
    have HTD : Hid (TJ w.heap.size b w.heap.size lg un (l.drop (unn l)) x (wr.setCell ⟨b, 0, none⟩ (.string ((str l).extract (unn l) (str l).size)))) := Lib.hid (HT.out.but (by rw [HD.out]; exact HT.out.cr.rest _) ((But.refl _ _ _).store _ _))
    have HBD : Hid (But w.heap.size b w (wr.setCell ⟨b, 0, none⟩ (.string ((str l).extract (unn l) (str l).size)))) := Lib.hid (HB.out.store _ _)
    rw [← HTK.out] at hpt
    have htl : (l.take (unn l)).length = unn l := by rw [List.length_take]; omega
    have hdl : (l.drop (unn l)).length = l.length - unn l := List.length_drop ..
    have HM := Lib.hid (restJ_jr HT.out.cr)
    obtain ⟨D, hD⟩ : ∃ D, l.drop (unn l) = D := ⟨_, rfl⟩
    obtain ⟨K, hK⟩ : ∃ K, l.take (unn l) = K := ⟨_, rfl⟩
    rw [hD] at hx KE HTD hdl HD
    rw [hK] at hx hpt htl HTK
    obtain ⟨c, hc⟩ : ∃ c, unc l = c := ⟨_, rfl⟩
    obtain ⟨n, hn⟩ : ∃ n, unn l = n := ⟨_, rfl⟩
    rw [hc] at KN hc32
    rw [hn] at KN HTD HBD n1 n4 nl hpt htl hdl HTK
    clear hD hK hc hn hne HD
    have hnS : (n : Int) ≤ ((str l).size : Int) := by omega
    have hmS : ((str l).size : Int) ≤ 140737488351232 := by omega
    obtain ⟨S, hS⟩ : ∃ S, str l = S := ⟨_, rfl⟩
    rw [hS] at KN HTD HBD hpt hnS hmS HTK q0
    clear hS hss
    by_cases hq : K = [34]
    · rw [if_pos hq] at hx
      have := Option.some.inj hx
      simp only [Prod.mk.injEq] at this
      obtain ⟨rfl, rfl⟩ := this
      have hb1 : ((S.extract 0 n).toList == [34]) = true := by rw [hpt, hq]; rfl
      have hb2 : (S.extract 0 n).toList = [34] := by rw [hpt, hq]
      have KS := Lib.hid (Tryz.Builder_String_any_k w.heap.size w.heap.size x _ HTD.out.bu HTD.out.le)
      clear hx hpt KW KE
      go_wp2_with (first
        | (go_at_call 71; ((with_reducible refine (KN.out _).mono ?_); rintro e w3 ⟨rfl, rfl⟩))
        | (go_at_call 72; ((with_reducible refine (KS.out).mono ?_); rintro e w5 ⟨rfl, c5, k5, o5⟩)))
      go_ret2
      exact ⟨rfl, (HTD.out.wrote c5 k5 o5).cr, HBD.out.trans (But.ofB k5 (Nat.le_refl _))⟩
    · rw [if_neg hq] at hx
      have hb1 : ((S.extract 0 n).toList == [34]) = false := by rw [hpt, beq_eq_false_iff_ne]; exact hq
      have hb2 : ¬ (S.extract 0 n).toList = [34] := by rw [hpt]; exact hq
      by_cases hq2 : K = [92]
      · rw [if_pos hq2] at hx
        have hb3 : ((S.extract 0 n).toList == [92]) = true := by rw [hpt, hq2]; rfl
        have hb4 : (S.extract 0 n).toList = [92] := by rw [hpt, hq2]
        obtain ⟨⟨p, r⟩, hpr⟩ : ∃ q, jesd D = some q := by
          cases hj : jesd D with
          | none => rw [hj] at hx; cases hx
          | some q => exact ⟨q, rfl⟩
        rw [hpr] at hx
        have HXN : Hid (jtx f' r (x ++ p) = some (T, R)) := Lib.hid hx
        have hpl := jesd_len hpr
        have KE2 := Lib.hid (KE.out _ p r hpr HTD.out.cr)
        clear hx hpt KE hpr
        go_wp2_with (first
          | (go_at_call 71; ((with_reducible refine (KN.out _).mono ?_); rintro e w3 ⟨rfl, rfl⟩))
          | (go_at_call 73; ((with_reducible refine (KE2.out).mono ?_); rintro e w4 ⟨rfl, hj4, hb4'⟩; have HT4 := Lib.hid (HTD.out.but hj4 hb4'); have HB4 := Lib.hid (HBD.out.trans (hb4'.mono HTD.out.le)); clear hj4 hb4'))
          | (go_at_call 74; ((with_reducible refine (KW.out _ x (by omega) p (by omega) HT4.out.bu HT4.out.le).mono ?_); rintro e w5 ⟨rfl, c5, k5, o5⟩)))
        have HT5 : Hid (TJ w.heap.size b w.heap.size lg un r (x ++ p) w5) := Lib.hid (HT4.out.wrote (Or.inr (by
          have e : Lib.byteCells (x ++ p) = Lib.byteCells x ++ Lib.strCells (str p) := by rw [Lib.strCells_eq, str_data]; unfold Lib.byteCells; rw [List.map_append]
          rw [e]
          exact c5)) k5 o5)
        have HB5 := Lib.hid (HB4.out.trans (But.ofB (B := b) k5 (Nat.le_refl _)))
        clear c5 k5 o5
        go_roundw
        case rel => exact ⟨f', r, x ++ p, HT5, HB5, HXN, by rw [List.length_append]; omega⟩
        case measure =>
          have m1 := restJ_jr HT5.out.cr
          have m2 := HM.out
          show restJ _ b < restJ _ b
          rw [m1, m2]
          omega
      · rw [if_neg hq2] at hx
        have hb3 : ((S.extract 0 n).toList == [92]) = false := by rw [hpt, beq_eq_false_iff_ne]; exact hq2
        have hb4 : ¬ (S.extract 0 n).toList = [92] := by rw [hpt]; exact hq2
        have HXN : Hid (jtx f' D (x ++ K) = some (T, R)) := Lib.hid hx
        have KW2 := Lib.hid (KW.out _ x (by omega) K (by omega) HTD.out.bu HTD.out.le)
        rw [← HTK.out] at KW2
        clear hx hpt KE KW
        go_wp2_with (first
          | (go_at_call 71; ((with_reducible refine (KN.out _).mono ?_); rintro e w3 ⟨rfl, rfl⟩))
          | (go_at_call 74; ((with_reducible refine (KW2.out).mono ?_); rintro e w5 ⟨rfl, c5, k5, o5⟩)))
        have HT5 : Hid (TJ w.heap.size b w.heap.size lg un D (x ++ K) w5) := Lib.hid (HTD.out.wrote (Or.inr (by
          have e : Lib.byteCells (x ++ K) = Lib.byteCells x ++ Lib.strCells (S.extract 0 n) := by rw [HTK.out, Lib.strCells_eq, str_data]; unfold Lib.byteCells; rw [List.map_append]
          rw [e]
          exact c5)) k5 o5)
        have HB5 := Lib.hid (HBD.out.trans (But.ofB (B := b) k5 (Nat.le_refl _)))
        clear c5 k5 o5
        go_roundw
        case rel => exact ⟨f', D, x ++ K, HT5, HB5, HXN, by rw [List.length_append]; omega⟩
        case measure =>
          have m1 := restJ_jr HT5.out.cr
          have m2 := HM.out
          show restJ _ b < restJ _ b
          rw [m1, m2]
          omega
end Go.Proofs.YtebfggiodhaahaaGreatDoor
end
section
namespace Go.Proofs.YtebfggiodhaahaaGreatDoor
open Go.RowKit Go.Shelf
set_option linter.unusedVariables false

/-- No block of the value's lists and names is in S. -/
inductive VT.Off (S : Nat → Prop) : VT → Prop
  | mk (o : Own) (kids : List VT) (h1 : 0 < kids.length → ∀ ad, o.la = some ad → ¬ S ad.block) (h2 : 0 < o.keys.length → ∀ ad, o.ka = some ad → ¬ S ad.block) (hk : ∀ t, t ∈ kids → VT.Off S t) : VT.Off S (.mk o kids)
theorem VT.Off.own {S : Nat → Prop} {o : Own} {l : List VT} (h : (VT.mk o l).Off S) : (0 < l.length → ∀ ad, o.la = some ad → ¬ S ad.block) ∧ (0 < o.keys.length → ∀ ad, o.ka = some ad → ¬ S ad.block) := by cases h; exact ⟨by assumption, by assumption⟩
theorem VT.Off.mem {S : Nat → Prop} {o : Own} {l : List VT} (h : (VT.mk o l).Off S) {t : VT} (ht : t ∈ l) : t.Off S := by cases h with | mk _ _ h1 h2 hk => exact hk t ht
theorem VT.Off.mono {S S' : Nat → Prop} (hs : ∀ k, S' k → S k) : ∀ {T : VT}, T.Off S → T.Off S' := by
  intro T
  induction T using VT.ind with
  | h o kids ih =>
    intro h
    exact .mk o kids (fun a ad b c => h.own.1 a ad b (hs _ c)) (fun a ad b c => h.own.2 a ad b (hs _ c)) (fun t ht => ih t ht (h.mem ht))
theorem cell_offJ {W W' : World} {a : Addr} {v : Value} (h : W.cell? a = some v) (k : W'.heap[a.block]? = W.heap[a.block]?) : W'.cell? a = some v := by
  unfold World.cell? at h ⊢
  rw [k]
  exact h
/-- A value lies in memory as long as the blocks out of S are as they were. -/
theorem VT.In.off {S : Nat → Prop} {W W' : World} (hk : ∀ k, ¬ S k → k < W.heap.size → W'.heap[k]? = W.heap[k]?) : ∀ {T : VT}, T.In W → T.Off S → T.In W' := by
  intro T
  induction T using VT.ind with
  | h o kids ih =>
    intro h hO
    obtain ⟨kb, ko, k1, k2⟩ := h.hk
    obtain ⟨lb', lo, l1, l2⟩ := h.hl
    refine .mk o kids h.wf ⟨kb, ko, k1, fun i s hi => ?_⟩ ⟨lb', lo, l1, fun i t hi j u hu => ?_⟩ (fun i t hi => ih t (List.mem_of_getElem? hi) (h.kid hi) (hO.mem (List.mem_of_getElem? hi)))
    · have hp : 0 < o.keys.length := Nat.lt_of_le_of_lt (Nat.zero_le i) (List.getElem?_eq_some_iff.1 hi).1
      have hc := k2 i s hi
      exact cell_offJ hc (hk _ (hO.own.2 hp ⟨kb, ko, none⟩ (k1 hp)) (cell_lt hc))
    · have hp : 0 < kids.length := Nat.lt_of_le_of_lt (Nat.zero_le i) (List.getElem?_eq_some_iff.1 hi).1
      have hc := l2 i t hi j u hu
      exact cell_offJ hc (hk _ (hO.own.1 hp ⟨lb', lo, none⟩ (l1 hp)) (cell_lt hc))
/-- What lies in memory lies in no block that is still to come. -/
theorem VT.In.old {W : World} : ∀ {T : VT}, T.In W → T.Off (fun k => W.heap.size ≤ k) := by
  intro T
  induction T using VT.ind with
  | h o kids ih =>
    intro h
    obtain ⟨kb, ko, k1, k2⟩ := h.hk
    obtain ⟨lb', lo, l1, l2⟩ := h.hl
    refine .mk o kids (fun hp ad ha => ?_) (fun hp ad ha => ?_) (fun t ht => ih t ht (h.mem ht))
    · obtain ⟨t, ht⟩ : ∃ t, kids[0]? = some t := ⟨_, List.getElem?_eq_getElem hp⟩
      have hc := cell_lt (l2 0 t ht 0 _ rfl)
      have h9 : o.la = some ⟨lb', lo, none⟩ := l1 hp
      rw [h9] at ha
      obtain rfl := Option.some.inj ha
      exact Nat.not_le.2 hc
    · obtain ⟨s, hs⟩ : ∃ s, o.keys[0]? = some s := ⟨_, List.getElem?_eq_getElem hp⟩
      have hc := cell_lt (k2 0 s hs)
      have h9 : o.ka = some ⟨kb, ko, none⟩ := k1 hp
      rw [h9] at ha
      obtain rfl := Option.some.inj ha
      exact Nat.not_le.2 hc
theorem VT.Off.both {S S' : Nat → Prop} : ∀ {T : VT}, T.Off S → T.Off S' → T.Off (fun k => S k ∨ S' k) := by
  intro T
  induction T using VT.ind with
  | h o kids ih =>
    intro h h'
    exact .mk o kids (fun a ad b c => c.elim (h.own.1 a ad b) (h'.own.1 a ad b)) (fun a ad b c => c.elim (h.own.2 a ad b) (h'.own.2 a ad b)) (fun t ht => ih t ht (h.mem ht) (h'.mem ht))
/-- All blocks out of S are as they were. -/
structure ButS (S : Nat → Prop) (w w' : World) : Prop where
  size : w.heap.size ≤ w'.heap.size
  block : ∀ k, k < w.heap.size → ¬ S k → w'.heap[k]? = w.heap[k]?
theorem ButS.refl (S : Nat → Prop) (w : World) : ButS S w w := ⟨Nat.le_refl _, fun _ _ _ => rfl⟩
theorem ButS.trans {S : Nat → Prop} {a b c : World} (h : ButS S a b) (k : ButS S b c) : ButS S a c := ⟨Nat.le_trans h.size k.size, fun i hi hs => (k.block i (Nat.lt_of_lt_of_le hi h.size) hs).trans (h.block i hi hs)⟩
theorem ButS.below {S : Nat → Prop} {w w' : World} (h : Below w.heap.size w w') : ButS S w w' := ⟨h.size, fun k hk _ => h.block k hk⟩
theorem ButS.grown {S : Nat → Prop} {w w' : World} {r : Option Nat} (h : w.grownBy w' r) (hr : ∀ k, some k = r → S k) : ButS S w w' := ⟨h.size, fun k hk hs => h.block k hk (fun e => hs (hr k e))⟩
theorem ButS.set {S : Nat → Prop} (w : World) {c : Nat} (hc : S c) (i : Nat) (u : Value) : ButS S w (w.setCell ⟨c, i, none⟩ u) := ⟨by simp [World.setCell], fun k _ hs => Below.heap_setCell _ _ _ _ (by intro e; exact hs (e ▸ hc))⟩
theorem ButS.keep {S : Nat → Prop} {w w' : World} (h : ButS S w w') {T : VT} (hI : T.In w) (hO : T.Off S) : T.In w' := hI.off (S := S) (fun k hk hl => h.block k hl hk) hO
end Go.Proofs.YtebfggiodhaahaaGreatDoor
end
section
namespace Go.Proofs.YtebfggiodhaahaaGreatDoor
open Go.RowKit Go.Shelf
set_option linter.unusedVariables false

theorem jskip_id (l : List UInt8) : jskip (jskip l) = jskip l := by
  unfold jskip
  induction l with
  | nil => rfl
  | cons c t ih =>
    rw [List.dropWhile_cons]
    split
    · exact ih
    · rename_i h
      rw [List.dropWhile_cons, if_neg h]
/-- A leaf; a tree without addresses. -/
def lf (k : Int) (g : Bool) (x : Nat) (y : Int) (s : ByteArray) : VT := .mk ⟨k, g, x, y, s, none, 0, none, 0, []⟩ []
def arrE (ks : List VT) : VT := .mk ⟨7, false, 0, 0, ⟨#[]⟩, none, 0, none, 0, []⟩ ks
def er : VT → VT
  | .mk o kids => .mk { o with la := none, lcap := 0, ka := none, kcap := 0 } (kids.map fun k => er k)
theorem er_mk (o : Own) (kids : List VT) : er (.mk o kids) = .mk { o with la := none, lcap := 0, ka := none, kcap := 0 } (kids.map er) := by rw [er]
def numc (c : UInt8) : Bool := decide (c = 45) || decide (48 ≤ c.toNat ∧ c.toNat ≤ 57)
mutual
/-- The text l begins with a value: the tree, what stands behind, whether a number was too long, or can't be had. -/
inductive JV : List UInt8 → VT → List UInt8 → Bool → Bool → Prop
  | nul {l r : List UInt8} (h : jskip l = [110, 117, 108, 108] ++ r) : JV l (lf 1 false 0 0 ⟨#[]⟩) r false false
  | fal {l r : List UInt8} (h : jskip l = [102, 97, 108, 115, 101] ++ r) : JV l (lf 2 false 0 0 ⟨#[]⟩) r false false
  | tru {l r : List UInt8} (h : jskip l = [116, 114, 117, 101] ++ r) : JV l (lf 2 false 0 1 ⟨#[]⟩) r false false
  | txt {l t x r : List UInt8} (f : Nat) (h : jskip l = 34 :: t) (hx : jtx f t [] = some (x, r)) : JV l (lf 5 false 0 0 (str x)) r false false
  | num {l t : List UInt8} {c : UInt8} {k : Int} {g : Bool} {x : Nat} {y : Int} (h : jskip l = c :: t) (hc : numc c = true) (hk : k = 3 ∨ k = 4) (hxx : x < 2 ^ 256) (hy : 0 ≤ y ∧ y ≤ 18446744073709551615) (hd : dpans ((c :: t).take (nsz (c :: t))) = .tuple #[VV k g x y, .int .i64 0]) : JV l (lf k g x y ⟨#[]⟩) ((c :: t).drop (nsz (c :: t))) false false
  | lng {l t : List UInt8} {c : UInt8} (h : jskip l = c :: t) (hc : numc c = true) (hd : dpans ((c :: t).take (nsz (c :: t))) = ER 8) : JV l (lf 1 false 0 0 ⟨#[]⟩) ((c :: t).drop (nsz (c :: t))) true false
  | unr {l t : List UInt8} {c : UInt8} (h : jskip l = c :: t) (hc : numc c = true) (hd : dpans ((c :: t).take (nsz (c :: t))) = ER 5) : JV l (lf 1 false 0 0 ⟨#[]⟩) ((c :: t).drop (nsz (c :: t))) false true
  | arr0 {l t r : List UInt8} (h : jskip l = 91 :: t) (h2 : jskip t = 93 :: r) : JV l (arrE []) r false false
  | arr {l t r : List UInt8} {ks : List VT} {lg un : Bool} (h : jskip l = 91 :: t) (h2 : Lib.hasPrefix (jskip t) [93] = false) (ha : JA t ks r lg un) : JV l (arrE ks) r lg un
/-- Elements, from the first one on. -/
inductive JA : List UInt8 → List VT → List UInt8 → Bool → Bool → Prop
  | last {t r1 r : List UInt8} {T : VT} {lg un : Bool} (hv : JV t T r1 lg un) (hl : r1.length < (jskip t).length) (h : jskip r1 = 93 :: r) : JA t [T] r lg un
  | more {t r1 t2 r : List UInt8} {T : VT} {Ts : List VT} {lg un lg2 un2 : Bool} (hv : JV t T r1 lg un) (hl : r1.length < (jskip t).length) (h : jskip r1 = 44 :: t2) (ha : JA t2 Ts r lg2 un2) : JA t (T :: Ts) r (lg || lg2) (un || un2)
end
theorem pre_no {c : UInt8} {t : List UInt8} {d : UInt8} {p : List UInt8} (h : c ≠ d) : Lib.hasPrefix (c :: t) (d :: p) = false := by
  unfold Lib.hasPrefix
  simp [List.isPrefixOf, h.symm]
theorem pre_yes {p r : List UInt8} : Lib.hasPrefix (p ++ r) p = true := List.isPrefixOf_iff_prefix.2 (List.prefix_append p r)
section
variable (l J : List UInt8) (hJ : jskip l = J) (P : ByteArray) (hl : l.length ≤ 70000000000000) (b : Nat) (lg un : Bool) (w : World) (h : Jr w b (str l) lg un)
include hJ hl h
theorem sgn_no (hp : Lib.hasPrefix J P.data.toList = false) :
    Calls Tryz.prog 37 #[.pointer (some ⟨b, 0, none⟩), .string P] w fun e w' => e = .returned (.bool false) ∧ Jr w' b (str J) lg un ∧ But w.heap.size b w w' := by
  have := rsign_any l P (by omega) b lg un w h
  rw [hJ, show cutp J P.data.toList = (J, false) from by unfold cutp; rw [hp]; rfl] at this
  exact this
theorem sgn_yes (r : List UInt8) (hr : J = P.data.toList ++ r) :
    Calls Tryz.prog 37 #[.pointer (some ⟨b, 0, none⟩), .string P] w fun e w' => e = .returned (.bool true) ∧ Jr w' b (str r) lg un ∧ But w.heap.size b w w' := by
  have := rsign_any l P (by omega) b lg un w h
  rw [hJ, show cutp J P.data.toList = (r, true) from by unfold cutp; rw [hr, pre_yes, if_pos rfl, List.drop_left]] at this
  exact this
end
theorem nsz_le (l : List UInt8) : nsz l ≤ l.length := by
  unfold nsz
  split
  · exact Nat.zero_le _
  · omega
theorem num_prem (l : List UInt8) (hl : l.length ≤ 70000000000000) (k : Int) (g : Bool) (x : Nat) (y : Int) (w : World) (hT : Tb w) (e : Int) (hd : dpans (l.take (nsz l)) = .tuple #[VV k g x y, .int .i64 e]) :
    (∀ W, Calls Tryz.prog 77 #[.string (str l)] W fun e w' => e = .returned (.int .i64 ((nsz l : Nat) : Int)) ∧ Below W.heap.size W w') ∧
    (∀ W, Below w.heap.size w W → Calls Tryz.prog 78 #[.string ((str l).extract 0 (nsz l))] W fun e' w' => e' = .returned (.tuple #[VV k g x y, .int .i64 e]) ∧ Below W.heap.size W w') := by
  refine ⟨fun W => nsz_any l (by omega) W, fun W hW => ?_⟩
  rw [str_take]
  have := dparse_any (l.take (nsz l)) W (tb_on hT hW)
  rw [hd] at this
  exact this
section
variable (l : List UInt8) (hl : l.length ≤ 70000000000000) (k : Int) (g : Bool) (x : Nat) (y : Int) (b : Nat) (lg un : Bool) (w : World) (h : Jr w b (str l) lg un) (hT : Tb w)
include hl h hT
theorem rnum_ok (hd : dpans (l.take (nsz l)) = .tuple #[VV k g x y, .int .i64 0]) :
    Calls Tryz.prog 41 #[.pointer (some ⟨b, 0, none⟩)] w fun e w' => e = .returned (.tuple #[VV k g x y, .bool true]) ∧ Jr w' b (str (l.drop (nsz l))) lg un ∧ But w.heap.size b w w' := by
  obtain ⟨k1, k2⟩ := num_prem l hl k g x y w hT 0 hd
  exact jnum_ok (str l) _ (nsz l) (by rw [str_size]; exact nsz_le l) (by rw [str_size]; omega) b lg un k g x y w h k1 k2 (str_drop l (nsz l))
theorem rnum_long (hd : dpans (l.take (nsz l)) = ER 8) :
    Calls Tryz.prog 41 #[.pointer (some ⟨b, 0, none⟩)] w fun e w' => e = .returned (.tuple #[VV 1 false 0 0, .bool true]) ∧ Jr w' b (str (l.drop (nsz l))) true un ∧ But w.heap.size b w w' := by
  obtain ⟨k1, k2⟩ := num_prem l hl 0 false 0 0 w hT 8 (by rw [hd]; unfold ER VV; simp only [lb_zero])
  exact jnum_long (str l) _ (nsz l) (by rw [str_size]; exact nsz_le l) (by rw [str_size]; omega) b lg un _ _ _ _ w h k1 k2 (str_drop l (nsz l))
theorem rnum_unrep (hd : dpans (l.take (nsz l)) = ER 5) :
    Calls Tryz.prog 41 #[.pointer (some ⟨b, 0, none⟩)] w fun e w' => e = .returned (.tuple #[VV 1 false 0 0, .bool true]) ∧ Jr w' b (str (l.drop (nsz l))) lg true ∧ But w.heap.size b w w' := by
  obtain ⟨k1, k2⟩ := num_prem l hl 0 false 0 0 w hT 5 (by rw [hd]; unfold ER VV; simp only [lb_zero])
  exact jnum_unrep (str l) _ (nsz l) (by rw [str_size]; exact nsz_le l) (by rw [str_size]; omega) b lg un _ _ _ _ w h k1 k2 (str_drop l (nsz l))
theorem rnum_bad (hd : dpans (l.take (nsz l)) = ER 3) :
    Calls Tryz.prog 41 #[.pointer (some ⟨b, 0, none⟩)] w fun e w' => e = .returned (.tuple #[VV 1 false 0 0, .bool false]) ∧ Jr w' b (str (l.drop (nsz l))) lg un ∧ But w.heap.size b w w' := by
  obtain ⟨k1, k2⟩ := num_prem l hl 0 false 0 0 w hT 3 (by rw [hd]; unfold ER VV; simp only [lb_zero])
  exact jnum_bad (str l) _ (nsz l) (by rw [str_size]; exact nsz_le l) (by rw [str_size]; omega) b lg un _ _ _ _ w h k1 k2 (str_drop l (nsz l))
end
theorem Row10.butJ {W W' : World} {b c : Nat} {v0 v1 v2 v3 v4 v5 v6 v7 v8 v9 : Value} (h : Row10 W c v0 v1 v2 v3 v4 v5 v6 v7 v8 v9) (hb : But W.heap.size b W W') (hne : c ≠ b) : Row10 W' c v0 v1 v2 v3 v4 v5 v6 v7 v8 v9 := (hb.block c h.lt hne).trans h
theorem ButS.but {S : Nat → Prop} {w w' : World} {b : Nat} (h : But w.heap.size b w w') (hb : S b) : ButS S w w' := ⟨h.size, fun k hk hs => h.block k hk (fun e => hs (e ▸ hb))⟩
theorem ButS.set10 {S : Nat → Prop} (w : World) {c : Nat} (hc : S c) (u0 u1 u2 u3 u4 u5 u6 u7 u8 u9 : Value) : ButS S w ((((((((((w.setCell ⟨c, 0, none⟩ u0).setCell ⟨c, 1, none⟩ u1).setCell ⟨c, 2, none⟩ u2).setCell ⟨c, 3, none⟩ u3).setCell ⟨c, 4, none⟩ u4).setCell ⟨c, 5, none⟩ u5).setCell ⟨c, 6, none⟩ u6).setCell ⟨c, 7, none⟩ u7).setCell ⟨c, 8, none⟩ u8).setCell ⟨c, 9, none⟩ u9) :=
  (((((((((((ButS.refl S w).trans (ButS.set _ hc 0 u0)).trans (ButS.set _ hc 1 u1)).trans (ButS.set _ hc 2 u2)).trans (ButS.set _ hc 3 u3)).trans (ButS.set _ hc 4 u4)).trans (ButS.set _ hc 5 u5)).trans (ButS.set _ hc 6 u6)).trans (ButS.set _ hc 7 u7)).trans (ButS.set _ hc 8 u8)).trans (ButS.set _ hc 9 u9))
theorem hnewV {W : World} {o : Obj} {B : Nat} (h : W.heap.size = B) : (W.alloc o).heap[B]? = some o := by subst h; exact heap_alloc_new W o
/-- A row of values that the call owns. -/
def Vr (W : World) (base : Nat) (v : Value) (ts : List VT) : Prop := W.ownsRow base 32 10 v ts.length (newsV ts)
theorem Vr.nil (W : World) (base : Nat) : Vr W base (.slice none 0 0) [] := World.ownsRow_nil _ _ _ _
theorem newsV_snoc (ts : List VT) (t : VT) : newsV (ts ++ [t]) = newsV ts ++ t.cells := by unfold newsV; simp
/-- The cells of a value that is laid in a block of its own. -/
def LitV (W : World) (g : Nat) (t : VT) : Prop := ∀ (j : Nat) (u : Value), t.cells[j]? = some u → W.cell? ⟨g, j, none⟩ = some u
theorem LitV.of {W : World} {g : Nat} {ty : TypeId} {cs : Array Value} (h : W.heap[g]? = some (.cells cs ty (0, 0))) {t : VT} (e : cs.toList = t.cells) : LitV W g t := by
  intro j u hj
  have h1 := World.news_of_block h j u (by rw [e]; exact hj)
  rwa [addr_add, Nat.zero_add] at h1
theorem cells_one (t : VT) : ∀ u ∈ t.cells, u.oneCell' = true := by
  intro u hu
  simp only [VT.cells, List.mem_cons, List.not_mem_nil, or_false] at hu
  rcases hu with rfl | rfl | rfl | rfl | rfl | rfl | rfl | rfl | rfl | rfl <;> rfl
theorem wpList_append_val {ops : Array Oper} {rest : List Oper} {o : Oper} {a : Act} {Q : Exit → Act → World → Prop} (w : World) (hgd : o.guard = none) (sl x : Operand)
    (ho : o.op = .call { callee := .builtin .append, args := #[sl, x], argTypes := #[29, 29] }) (base : Nat) (v : Value) (ts : List VT) (hs : a.eval sl = v) (hb : Vr w base v ts) (g c : Nat) (t : VT) (hx : a.eval x = .slice (some ⟨g, 0, none⟩) 1 c)
    (hc : LitV w g t) (N : Nat) (hN : ts.length + 1 = N) (hsz : N ≤ 1000000000000) (hbase : base ≤ w.heap.size)
    (h : ∀ q cap w', Vr w' base (.slice (some ⟨q, 0, none⟩) N cap) (ts ++ [t]) → w.grownBy w' v.ownBlock → (v.ownBlock = some q ∨ q = w.heap.size) → wpList Tryz.prog ops Q rest (a.put o.dst (.slice (some ⟨q, 0, none⟩) N cap)) w') : wpList Tryz.prog ops Q (o :: rest) a w := by
  subst hN
  obtain ⟨i0, hi, hz0, hz1, hz2⟩ := info_at info_val
  refine wpList_append_lies w hgd sl x 29 ho base 32 i0 (V10 0 false 0 0 0 0 0 ⟨#[]⟩ none 0 0 none 0 0) 10 120 und_vals hi hz0 hz1 hz2 rfl (by decide) v ts.length (newsV ts) hs hb ⟨g, 0, none⟩ 1 c t.cells hx rfl (fun j u hj => by rw [addr_add, Nat.zero_add]; exact hc j u hj) (cells_one t) (by decide) (by unfold maxLen; omega) (by omega) hbase w.heap.size rfl ?_
  intro q cap w' hown hg hat _
  refine h q cap w' ?_ hg hat
  unfold Vr
  rw [newsV_snoc, List.length_append]
  exact hown
theorem kids_rowJ {W : World} {base g cap : Nat} {l : List VT} {n : Nat} (hl : l.length = n) (h : W.ownsRow base 32 10 (.slice (some ⟨g, 0, none⟩) n cap) n (newsV l)) : KidsAt W (some ⟨g, 0, none⟩) l := by
  refine ⟨g, 0, fun _ => rfl, fun i t hi j u hu => ?_⟩
  have hlt : i < n := by rw [← hl]; exact (List.getElem?_eq_some_iff.1 hi).1
  have hj : j < 10 := by have := (List.getElem?_eq_some_iff.1 hu).1; rwa [VT.cells_length] at this
  have := h.cellAt (i * 10 + j) (by omega)
  have e : ∀ (l : List VT) (i : Nat), l[i]? = some t → (newsV l)[i * 10 + j]? = some u := by
    intro l
    induction l with
    | nil => intro i h; simp at h
    | cons a l ih =>
      intro i h
      have e : newsV (a :: l) = a.cells ++ newsV l := by unfold newsV; rw [List.flatMap_cons]
      rw [e]
      cases i with
      | zero =>
        simp at h
        subst h
        rw [List.getElem?_append_left (by rw [VT.cells_length]; omega)]
        simpa using hu
      | succ i =>
        rw [List.getElem?_append_right (by rw [VT.cells_length]; omega), VT.cells_length]
        have := ih i (by simpa using h)
        rwa [show (i + 1) * 10 + j - 10 = i * 10 + j by omega]
  rw [e l i hi] at this
  simpa using this
end Go.Proofs.YtebfggiodhaahaaGreatDoor
end
section
namespace Go.Proofs.YtebfggiodhaahaaGreatDoor
open Go.RowKit Go.Shelf
set_option linter.unusedVariables false

set_option maxRecDepth 100000 in
set_option maxHeartbeats 2000000 in
theorem rv_nul (l J : List UInt8) (hl : l.length ≤ 60000000000000) (hJ : jskip l = J) (b : Nat) (lg un : Bool) (w : World) (h : Jr w b (str l) lg un) (r : List UInt8) (hr : J = [110, 117, 108, 108] ++ r) (hno : ∀ P ∈ ([] : List (List UInt8)), Lib.hasPrefix J P = false) :
    Calls Tryz.prog 17 #[.pointer (some ⟨b, 0, none⟩)] w fun e w' => e = .returned (.tuple #[V10 1 false 0 0 0 0 0 ⟨#[]⟩ none 0 0 none 0 0, .bool true]) ∧ Jr w' b (str r) lg un ∧ But w.heap.size b w w' := by
  have hJJ : jskip J = J := by rw [← hJ]; exact jskip_id l
  have hlJ : J.length ≤ 60000000000000 := by rw [← hJ]; have := jskip_len l; omega
  have hbw := h.lt
  have K0 : Hid (∀ W, Jr W b (str l) lg un → Calls Tryz.prog 37 #[.pointer (some ⟨b, 0, none⟩), .string ⟨#[110, 117, 108, 108]⟩] W fun e w' => e = .returned (.bool true) ∧ Jr w' b (str r) lg un ∧ But W.heap.size b W w') := Lib.hid (fun W hW => sgn_yes l J hJ ⟨#[110, 117, 108, 108]⟩ (by omega) b lg un W hW r hr)
  have HJ0 := Lib.hid (h.alloc (.cells #[.int .i64 0, .bool false, .int .u64 0, .int .u64 0, .int .u64 0, .int .u64 0, .int .u64 0, .string ⟨#[]⟩, .slice none 0 0, .slice none 0 0] 32))
  have B0 : Hid (But w.heap.size b w (w.alloc (.cells #[.int .i64 0, .bool false, .int .u64 0, .int .u64 0, .int .u64 0, .int .u64 0, .int .u64 0, .string ⟨#[]⟩, .slice none 0 0, .slice none 0 0] 32))) := Lib.hid (But.of (bal (Below.refl _ _) _))
  have R0 := Lib.hid (Row10.new w (.int .i64 0) (.bool false) (.int .u64 0) (.int .u64 0) (.int .u64 0) (.int .u64 0) (.int .u64 0) (.string ⟨#[]⟩) (.slice none 0 0) (.slice none 0 0))
  clear h hno hr hJ hJJ
  go_enter Tryz.func17, Tryz.ntmps17
  go_wp2_with (first
    | (go_at_call 37; ((with_reducible refine (K0.out _ HJ0.out).mono ?_); rintro e w1 ⟨rfl, hj0, hb0⟩; have J1 := Lib.hid hj0; have B1 := Lib.hid (B0.out.trans (hb0.mono (by simp))); have R1 := Lib.hid (R0.out.butJ hb0 (by omega)); clear hj0 hb0; obtain ⟨c0, c1, c2, c3, c4, c5, c6, c7, c8, c9⟩ := R1.out.parts; have rl := R1.out.lt; have rf := R1.out.free)))
  obtain ⟨z0, z1, z2, z3, z4, z5, z6, z7, z8, z9⟩ := (R1.out.set10 (.int .i64 1) (.bool false) (.int .u64 0) (.int .u64 0) (.int .u64 0) (.int .u64 0) (.int .u64 0) (.string ⟨#[]⟩) (.slice none 0 0) (.slice none 0 0)).parts
  exact bodyPost_ret (v := .tuple #[V10 1 false 0 0 0 0 0 ⟨#[]⟩ none 0 0 none 0 0, .bool true]) (by simp [results, Tryz.results17, go_sem, z0, z1, z2, z3, z4, z5, z6, z7, z8, z9]) rfl ⟨rfl, J1.out.set10 (by omega) _ _ _ _ _ _ _ _ _ _, B1.out.set10 (Nat.le_refl _) _ _ _ _ _ _ _ _ _ _⟩
set_option maxRecDepth 100000 in
set_option maxHeartbeats 2000000 in
theorem rv_fal (l J : List UInt8) (hl : l.length ≤ 60000000000000) (hJ : jskip l = J) (b : Nat) (lg un : Bool) (w : World) (h : Jr w b (str l) lg un) (r : List UInt8) (hr : J = [102, 97, 108, 115, 101] ++ r) (hno : ∀ P ∈ ([[110, 117, 108, 108]] : List (List UInt8)), Lib.hasPrefix J P = false) :
    Calls Tryz.prog 17 #[.pointer (some ⟨b, 0, none⟩)] w fun e w' => e = .returned (.tuple #[V10 2 false 0 0 0 0 0 ⟨#[]⟩ none 0 0 none 0 0, .bool true]) ∧ Jr w' b (str r) lg un ∧ But w.heap.size b w w' := by
  have hJJ : jskip J = J := by rw [← hJ]; exact jskip_id l
  have hlJ : J.length ≤ 60000000000000 := by rw [← hJ]; have := jskip_len l; omega
  have hbw := h.lt
  have K0 : Hid (∀ W, Jr W b (str l) lg un → Calls Tryz.prog 37 #[.pointer (some ⟨b, 0, none⟩), .string ⟨#[110, 117, 108, 108]⟩] W fun e w' => e = .returned (.bool false) ∧ Jr w' b (str J) lg un ∧ But W.heap.size b W w') := Lib.hid (fun W hW => sgn_no l J hJ ⟨#[110, 117, 108, 108]⟩ (by omega) b lg un W hW (hno _ (by simp)))
  have K1 : Hid (∀ W, Jr W b (str J) lg un → Calls Tryz.prog 37 #[.pointer (some ⟨b, 0, none⟩), .string ⟨#[102, 97, 108, 115, 101]⟩] W fun e w' => e = .returned (.bool true) ∧ Jr w' b (str r) lg un ∧ But W.heap.size b W w') := Lib.hid (fun W hW => sgn_yes J J hJJ ⟨#[102, 97, 108, 115, 101]⟩ (by omega) b lg un W hW r hr)
  have HJ0 := Lib.hid (h.alloc (.cells #[.int .i64 0, .bool false, .int .u64 0, .int .u64 0, .int .u64 0, .int .u64 0, .int .u64 0, .string ⟨#[]⟩, .slice none 0 0, .slice none 0 0] 32))
  have B0 : Hid (But w.heap.size b w (w.alloc (.cells #[.int .i64 0, .bool false, .int .u64 0, .int .u64 0, .int .u64 0, .int .u64 0, .int .u64 0, .string ⟨#[]⟩, .slice none 0 0, .slice none 0 0] 32))) := Lib.hid (But.of (bal (Below.refl _ _) _))
  have R0 := Lib.hid (Row10.new w (.int .i64 0) (.bool false) (.int .u64 0) (.int .u64 0) (.int .u64 0) (.int .u64 0) (.int .u64 0) (.string ⟨#[]⟩) (.slice none 0 0) (.slice none 0 0))
  clear h hno hr hJ hJJ
  go_enter Tryz.func17, Tryz.ntmps17
  go_wp2_with (first
    | (go_at_call 37; ((with_reducible refine (K0.out _ HJ0.out).mono ?_); rintro e w1 ⟨rfl, hj0, hb0⟩; have J1 := Lib.hid hj0; have B1 := Lib.hid (B0.out.trans (hb0.mono (by simp))); have R1 := Lib.hid (R0.out.butJ hb0 (by omega)); clear hj0 hb0))
    | (go_at_call 37; ((with_reducible refine (K1.out _ J1.out).mono ?_); rintro e w2 ⟨rfl, hj1, hb1⟩; have J2 := Lib.hid hj1; have B2 := Lib.hid (B1.out.trans (hb1.mono (B1.out.size))); have R2 := Lib.hid (R1.out.butJ hb1 (by omega)); clear hj1 hb1; obtain ⟨c0, c1, c2, c3, c4, c5, c6, c7, c8, c9⟩ := R2.out.parts; have rl := R2.out.lt; have rf := R2.out.free)))
  obtain ⟨z0, z1, z2, z3, z4, z5, z6, z7, z8, z9⟩ := (R2.out.set10 (.int .i64 2) (.bool false) (.int .u64 0) (.int .u64 0) (.int .u64 0) (.int .u64 0) (.int .u64 0) (.string ⟨#[]⟩) (.slice none 0 0) (.slice none 0 0)).parts
  exact bodyPost_ret (v := .tuple #[V10 2 false 0 0 0 0 0 ⟨#[]⟩ none 0 0 none 0 0, .bool true]) (by simp [results, Tryz.results17, go_sem, z0, z1, z2, z3, z4, z5, z6, z7, z8, z9]) rfl ⟨rfl, J2.out.set10 (by omega) _ _ _ _ _ _ _ _ _ _, B2.out.set10 (Nat.le_refl _) _ _ _ _ _ _ _ _ _ _⟩
set_option maxRecDepth 100000 in
set_option maxHeartbeats 2000000 in
theorem rv_tru (l J : List UInt8) (hl : l.length ≤ 60000000000000) (hJ : jskip l = J) (b : Nat) (lg un : Bool) (w : World) (h : Jr w b (str l) lg un) (r : List UInt8) (hr : J = [116, 114, 117, 101] ++ r) (hno : ∀ P ∈ ([[110, 117, 108, 108], [102, 97, 108, 115, 101]] : List (List UInt8)), Lib.hasPrefix J P = false) :
    Calls Tryz.prog 17 #[.pointer (some ⟨b, 0, none⟩)] w fun e w' => e = .returned (.tuple #[V10 2 false 0 0 0 0 1 ⟨#[]⟩ none 0 0 none 0 0, .bool true]) ∧ Jr w' b (str r) lg un ∧ But w.heap.size b w w' := by
  have hJJ : jskip J = J := by rw [← hJ]; exact jskip_id l
  have hlJ : J.length ≤ 60000000000000 := by rw [← hJ]; have := jskip_len l; omega
  have hbw := h.lt
  have K0 : Hid (∀ W, Jr W b (str l) lg un → Calls Tryz.prog 37 #[.pointer (some ⟨b, 0, none⟩), .string ⟨#[110, 117, 108, 108]⟩] W fun e w' => e = .returned (.bool false) ∧ Jr w' b (str J) lg un ∧ But W.heap.size b W w') := Lib.hid (fun W hW => sgn_no l J hJ ⟨#[110, 117, 108, 108]⟩ (by omega) b lg un W hW (hno _ (by simp)))
  have K1 : Hid (∀ W, Jr W b (str J) lg un → Calls Tryz.prog 37 #[.pointer (some ⟨b, 0, none⟩), .string ⟨#[102, 97, 108, 115, 101]⟩] W fun e w' => e = .returned (.bool false) ∧ Jr w' b (str J) lg un ∧ But W.heap.size b W w') := Lib.hid (fun W hW => sgn_no J J hJJ ⟨#[102, 97, 108, 115, 101]⟩ (by omega) b lg un W hW (hno _ (by simp)))
  have K2 : Hid (∀ W, Jr W b (str J) lg un → Calls Tryz.prog 37 #[.pointer (some ⟨b, 0, none⟩), .string ⟨#[116, 114, 117, 101]⟩] W fun e w' => e = .returned (.bool true) ∧ Jr w' b (str r) lg un ∧ But W.heap.size b W w') := Lib.hid (fun W hW => sgn_yes J J hJJ ⟨#[116, 114, 117, 101]⟩ (by omega) b lg un W hW r hr)
  have HJ0 := Lib.hid (h.alloc (.cells #[.int .i64 0, .bool false, .int .u64 0, .int .u64 0, .int .u64 0, .int .u64 0, .int .u64 0, .string ⟨#[]⟩, .slice none 0 0, .slice none 0 0] 32))
  have B0 : Hid (But w.heap.size b w (w.alloc (.cells #[.int .i64 0, .bool false, .int .u64 0, .int .u64 0, .int .u64 0, .int .u64 0, .int .u64 0, .string ⟨#[]⟩, .slice none 0 0, .slice none 0 0] 32))) := Lib.hid (But.of (bal (Below.refl _ _) _))
  have R0 := Lib.hid (Row10.new w (.int .i64 0) (.bool false) (.int .u64 0) (.int .u64 0) (.int .u64 0) (.int .u64 0) (.int .u64 0) (.string ⟨#[]⟩) (.slice none 0 0) (.slice none 0 0))
  clear h hno hr hJ hJJ
  go_enter Tryz.func17, Tryz.ntmps17
  go_wp2_with (first
    | (go_at_call 37; ((with_reducible refine (K0.out _ HJ0.out).mono ?_); rintro e w1 ⟨rfl, hj0, hb0⟩; have J1 := Lib.hid hj0; have B1 := Lib.hid (B0.out.trans (hb0.mono (by simp))); have R1 := Lib.hid (R0.out.butJ hb0 (by omega)); clear hj0 hb0))
    | (go_at_call 37; ((with_reducible refine (K1.out _ J1.out).mono ?_); rintro e w2 ⟨rfl, hj1, hb1⟩; have J2 := Lib.hid hj1; have B2 := Lib.hid (B1.out.trans (hb1.mono (B1.out.size))); have R2 := Lib.hid (R1.out.butJ hb1 (by omega)); clear hj1 hb1))
    | (go_at_call 37; ((with_reducible refine (K2.out _ J2.out).mono ?_); rintro e w3 ⟨rfl, hj2, hb2⟩; have J3 := Lib.hid hj2; have B3 := Lib.hid (B2.out.trans (hb2.mono (B2.out.size))); have R3 := Lib.hid (R2.out.butJ hb2 (by omega)); clear hj2 hb2; obtain ⟨c0, c1, c2, c3, c4, c5, c6, c7, c8, c9⟩ := R3.out.parts; have rl := R3.out.lt; have rf := R3.out.free)))
  obtain ⟨z0, z1, z2, z3, z4, z5, z6, z7, z8, z9⟩ := (R3.out.set10 (.int .i64 2) (.bool false) (.int .u64 0) (.int .u64 0) (.int .u64 0) (.int .u64 0) (.int .u64 1) (.string ⟨#[]⟩) (.slice none 0 0) (.slice none 0 0)).parts
  exact bodyPost_ret (v := .tuple #[V10 2 false 0 0 0 0 1 ⟨#[]⟩ none 0 0 none 0 0, .bool true]) (by simp [results, Tryz.results17, go_sem, z0, z1, z2, z3, z4, z5, z6, z7, z8, z9]) rfl ⟨rfl, J3.out.set10 (by omega) _ _ _ _ _ _ _ _ _ _, B3.out.set10 (Nat.le_refl _) _ _ _ _ _ _ _ _ _ _⟩
set_option maxRecDepth 100000 in
set_option maxHeartbeats 2000000 in
theorem rv_txt (l J : List UInt8) (hl : l.length ≤ 60000000000000) (hJ : jskip l = J) (b : Nat) (lg un : Bool) (w : World) (h : Jr w b (str l) lg un) (r : List UInt8) (hr : J = [34] ++ r) (hno : ∀ P ∈ ([[110, 117, 108, 108], [102, 97, 108, 115, 101], [116, 114, 117, 101]] : List (List UInt8)), Lib.hasPrefix J P = false) (U : ByteArray) (r2 : List UInt8)
    (kt : ∀ W, Jr W b (str r) lg un → Calls Tryz.prog 38 #[.pointer (some ⟨b, 0, none⟩)] W fun e w' => e = .returned (.tuple #[.string U, .bool true]) ∧ Jr w' b (str r2) lg un ∧ But W.heap.size b W w') :
    Calls Tryz.prog 17 #[.pointer (some ⟨b, 0, none⟩)] w fun e w' => e = .returned (.tuple #[V10 5 false 0 0 0 0 0 U none 0 0 none 0 0, .bool true]) ∧ Jr w' b (str r2) lg un ∧ But w.heap.size b w w' := by
  have hJJ : jskip J = J := by rw [← hJ]; exact jskip_id l
  have hlJ : J.length ≤ 60000000000000 := by rw [← hJ]; have := jskip_len l; omega
  have hbw := h.lt
  have K0 : Hid (∀ W, Jr W b (str l) lg un → Calls Tryz.prog 37 #[.pointer (some ⟨b, 0, none⟩), .string ⟨#[110, 117, 108, 108]⟩] W fun e w' => e = .returned (.bool false) ∧ Jr w' b (str J) lg un ∧ But W.heap.size b W w') := Lib.hid (fun W hW => sgn_no l J hJ ⟨#[110, 117, 108, 108]⟩ (by omega) b lg un W hW (hno _ (by simp)))
  have K1 : Hid (∀ W, Jr W b (str J) lg un → Calls Tryz.prog 37 #[.pointer (some ⟨b, 0, none⟩), .string ⟨#[102, 97, 108, 115, 101]⟩] W fun e w' => e = .returned (.bool false) ∧ Jr w' b (str J) lg un ∧ But W.heap.size b W w') := Lib.hid (fun W hW => sgn_no J J hJJ ⟨#[102, 97, 108, 115, 101]⟩ (by omega) b lg un W hW (hno _ (by simp)))
  have K2 : Hid (∀ W, Jr W b (str J) lg un → Calls Tryz.prog 37 #[.pointer (some ⟨b, 0, none⟩), .string ⟨#[116, 114, 117, 101]⟩] W fun e w' => e = .returned (.bool false) ∧ Jr w' b (str J) lg un ∧ But W.heap.size b W w') := Lib.hid (fun W hW => sgn_no J J hJJ ⟨#[116, 114, 117, 101]⟩ (by omega) b lg un W hW (hno _ (by simp)))
  have K3 : Hid (∀ W, Jr W b (str J) lg un → Calls Tryz.prog 37 #[.pointer (some ⟨b, 0, none⟩), .string ⟨#[34]⟩] W fun e w' => e = .returned (.bool true) ∧ Jr w' b (str r) lg un ∧ But W.heap.size b W w') := Lib.hid (fun W hW => sgn_yes J J hJJ ⟨#[34]⟩ (by omega) b lg un W hW r hr)
  have KT := Lib.hid kt
  have HJ0 := Lib.hid (h.alloc (.cells #[.int .i64 0, .bool false, .int .u64 0, .int .u64 0, .int .u64 0, .int .u64 0, .int .u64 0, .string ⟨#[]⟩, .slice none 0 0, .slice none 0 0] 32))
  have B0 : Hid (But w.heap.size b w (w.alloc (.cells #[.int .i64 0, .bool false, .int .u64 0, .int .u64 0, .int .u64 0, .int .u64 0, .int .u64 0, .string ⟨#[]⟩, .slice none 0 0, .slice none 0 0] 32))) := Lib.hid (But.of (bal (Below.refl _ _) _))
  have R0 := Lib.hid (Row10.new w (.int .i64 0) (.bool false) (.int .u64 0) (.int .u64 0) (.int .u64 0) (.int .u64 0) (.int .u64 0) (.string ⟨#[]⟩) (.slice none 0 0) (.slice none 0 0))
  clear h hno hr hJ hJJ kt
  go_enter Tryz.func17, Tryz.ntmps17
  go_wp2_with (first
    | (go_at_call 37; ((with_reducible refine (K0.out _ HJ0.out).mono ?_); rintro e w1 ⟨rfl, hj0, hb0⟩; have J1 := Lib.hid hj0; have B1 := Lib.hid (B0.out.trans (hb0.mono (by simp))); have R1 := Lib.hid (R0.out.butJ hb0 (by omega)); clear hj0 hb0))
    | (go_at_call 37; ((with_reducible refine (K1.out _ J1.out).mono ?_); rintro e w2 ⟨rfl, hj1, hb1⟩; have J2 := Lib.hid hj1; have B2 := Lib.hid (B1.out.trans (hb1.mono (B1.out.size))); have R2 := Lib.hid (R1.out.butJ hb1 (by omega)); clear hj1 hb1))
    | (go_at_call 37; ((with_reducible refine (K2.out _ J2.out).mono ?_); rintro e w3 ⟨rfl, hj2, hb2⟩; have J3 := Lib.hid hj2; have B3 := Lib.hid (B2.out.trans (hb2.mono (B2.out.size))); have R3 := Lib.hid (R2.out.butJ hb2 (by omega)); clear hj2 hb2))
    | (go_at_call 37; ((with_reducible refine (K3.out _ J3.out).mono ?_); rintro e w4 ⟨rfl, hj3, hb3⟩; have J4 := Lib.hid hj3; have B4 := Lib.hid (B3.out.trans (hb3.mono (B3.out.size))); have R4 := Lib.hid (R3.out.butJ hb3 (by omega)); clear hj3 hb3))
    | (go_at_call 38; ((with_reducible refine (KT.out _ J4.out).mono ?_); rintro e w5 ⟨rfl, hj4, hb4⟩; have J5 := Lib.hid hj4; have B5 := Lib.hid (B4.out.trans (hb4.mono (B4.out.size))); have R5 := Lib.hid (R4.out.butJ hb4 (by omega)); obtain ⟨c0, c1, c2, c3, c4, c5, c6, c7, c8, c9⟩ := R5.out.parts; have rl := R5.out.lt; have rf := R5.out.free; clear hj4 hb4)))
  obtain ⟨z0, z1, z2, z3, z4, z5, z6, z7, z8, z9⟩ := (R5.out.set10 (.int .i64 5) (.bool false) (.int .u64 0) (.int .u64 0) (.int .u64 0) (.int .u64 0) (.int .u64 0) (.string U) (.slice none 0 0) (.slice none 0 0)).parts
  exact bodyPost_ret (v := .tuple #[V10 5 false 0 0 0 0 0 U none 0 0 none 0 0, .bool true]) (by simp [results, Tryz.results17, go_sem, z0, z1, z2, z3, z4, z5, z6, z7, z8, z9]) rfl ⟨rfl, J5.out.set10 (by omega) _ _ _ _ _ _ _ _ _ _, B5.out.set10 (Nat.le_refl _) _ _ _ _ _ _ _ _ _ _⟩
set_option maxRecDepth 100000 in
set_option maxHeartbeats 2000000 in
theorem rv_arr (l J : List UInt8) (hl : l.length ≤ 60000000000000) (hJ : jskip l = J) (b : Nat) (lg un : Bool) (w : World) (h : Jr w b (str l) lg un) (r : List UInt8) (hr : J = [91] ++ r) (hno : ∀ P ∈ ([[110, 117, 108, 108], [102, 97, 108, 115, 101], [116, 114, 117, 101], [34]] : List (List UInt8)), Lib.hasPrefix J P = false) (Q : Own → List VT → Bool → World → World → Prop)
    (kt : ∀ W, Below w.heap.size w w → But w.heap.size b w W → Jr W b (str r) lg un → Calls Tryz.prog 39 #[.pointer (some ⟨b, 0, none⟩)] W fun e w' => ∃ (o : Own) (kids : List VT) (ok : Bool), e = .returned (.tuple #[V10 o.kind o.g (lb 0 o.x) (lb 1 o.x) (lb 2 o.x) (lb 3 o.x) o.bits o.text o.la kids.length o.lcap o.ka o.keys.length o.kcap, .bool ok]) ∧ Q o kids ok W w' ∧ (∃ s lg2 un2, Jr w' b s lg2 un2) ∧ But W.heap.size b W w') :
    Calls Tryz.prog 17 #[.pointer (some ⟨b, 0, none⟩)] w fun e w' => ∃ (o : Own) (kids : List VT) (ok : Bool) (W X : World) (s : ByteArray) (lg2 un2 : Bool), e = .returned (.tuple #[(VT.mk o kids).val, .bool ok]) ∧ Q o kids ok W X ∧ But w.heap.size b w W ∧ But W.heap.size b W X ∧ Jr X b s lg2 un2 ∧ Jr w' b s lg2 un2 ∧ But w.heap.size b w w' ∧ w.heap.size < W.heap.size ∧ ButS (fun k => k = w.heap.size) X w' := by
  have hJJ : jskip J = J := by rw [← hJ]; exact jskip_id l
  have hlJ : J.length ≤ 60000000000000 := by rw [← hJ]; have := jskip_len l; omega
  have hbw := h.lt
  have K0 : Hid (∀ W, Jr W b (str l) lg un → Calls Tryz.prog 37 #[.pointer (some ⟨b, 0, none⟩), .string ⟨#[110, 117, 108, 108]⟩] W fun e w' => e = .returned (.bool false) ∧ Jr w' b (str J) lg un ∧ But W.heap.size b W w') := Lib.hid (fun W hW => sgn_no l J hJ ⟨#[110, 117, 108, 108]⟩ (by omega) b lg un W hW (hno _ (by simp)))
  have K1 : Hid (∀ W, Jr W b (str J) lg un → Calls Tryz.prog 37 #[.pointer (some ⟨b, 0, none⟩), .string ⟨#[102, 97, 108, 115, 101]⟩] W fun e w' => e = .returned (.bool false) ∧ Jr w' b (str J) lg un ∧ But W.heap.size b W w') := Lib.hid (fun W hW => sgn_no J J hJJ ⟨#[102, 97, 108, 115, 101]⟩ (by omega) b lg un W hW (hno _ (by simp)))
  have K2 : Hid (∀ W, Jr W b (str J) lg un → Calls Tryz.prog 37 #[.pointer (some ⟨b, 0, none⟩), .string ⟨#[116, 114, 117, 101]⟩] W fun e w' => e = .returned (.bool false) ∧ Jr w' b (str J) lg un ∧ But W.heap.size b W w') := Lib.hid (fun W hW => sgn_no J J hJJ ⟨#[116, 114, 117, 101]⟩ (by omega) b lg un W hW (hno _ (by simp)))
  have K3 : Hid (∀ W, Jr W b (str J) lg un → Calls Tryz.prog 37 #[.pointer (some ⟨b, 0, none⟩), .string ⟨#[34]⟩] W fun e w' => e = .returned (.bool false) ∧ Jr w' b (str J) lg un ∧ But W.heap.size b W w') := Lib.hid (fun W hW => sgn_no J J hJJ ⟨#[34]⟩ (by omega) b lg un W hW (hno _ (by simp)))
  have K4 : Hid (∀ W, Jr W b (str J) lg un → Calls Tryz.prog 37 #[.pointer (some ⟨b, 0, none⟩), .string ⟨#[91]⟩] W fun e w' => e = .returned (.bool true) ∧ Jr w' b (str r) lg un ∧ But W.heap.size b W w') := Lib.hid (fun W hW => sgn_yes J J hJJ ⟨#[91]⟩ (by omega) b lg un W hW r hr)
  have KT := Lib.hid kt
  have HJ0 := Lib.hid (h.alloc (.cells #[.int .i64 0, .bool false, .int .u64 0, .int .u64 0, .int .u64 0, .int .u64 0, .int .u64 0, .string ⟨#[]⟩, .slice none 0 0, .slice none 0 0] 32))
  have B0 : Hid (But w.heap.size b w (w.alloc (.cells #[.int .i64 0, .bool false, .int .u64 0, .int .u64 0, .int .u64 0, .int .u64 0, .int .u64 0, .string ⟨#[]⟩, .slice none 0 0, .slice none 0 0] 32))) := Lib.hid (But.of (bal (Below.refl _ _) _))
  have R0 := Lib.hid (Row10.new w (.int .i64 0) (.bool false) (.int .u64 0) (.int .u64 0) (.int .u64 0) (.int .u64 0) (.int .u64 0) (.string ⟨#[]⟩) (.slice none 0 0) (.slice none 0 0))
  clear h hno hJ hJJ kt hr
  go_enter Tryz.func17, Tryz.ntmps17
  go_wp2_with (first
    | (go_at_call 37; ((with_reducible refine (K0.out _ HJ0.out).mono ?_); rintro e w1 ⟨rfl, hj0, hb0⟩; have J1 := Lib.hid hj0; have B1 := Lib.hid (B0.out.trans (hb0.mono (by simp))); have R1 := Lib.hid (R0.out.butJ hb0 (by omega)); clear hj0 hb0))
    | (go_at_call 37; ((with_reducible refine (K1.out _ J1.out).mono ?_); rintro e w2 ⟨rfl, hj1, hb1⟩; have J2 := Lib.hid hj1; have B2 := Lib.hid (B1.out.trans (hb1.mono (B1.out.size))); have R2 := Lib.hid (R1.out.butJ hb1 (by omega)); clear hj1 hb1))
    | (go_at_call 37; ((with_reducible refine (K2.out _ J2.out).mono ?_); rintro e w3 ⟨rfl, hj2, hb2⟩; have J3 := Lib.hid hj2; have B3 := Lib.hid (B2.out.trans (hb2.mono (B2.out.size))); have R3 := Lib.hid (R2.out.butJ hb2 (by omega)); clear hj2 hb2))
    | (go_at_call 37; ((with_reducible refine (K3.out _ J3.out).mono ?_); rintro e w4 ⟨rfl, hj3, hb3⟩; have J4 := Lib.hid hj3; have B4 := Lib.hid (B3.out.trans (hb3.mono (B3.out.size))); have R4 := Lib.hid (R3.out.butJ hb3 (by omega)); clear hj3 hb3))
    | (go_at_call 37; ((with_reducible refine (K4.out _ J4.out).mono ?_); rintro e w5 ⟨rfl, hj4, hb4⟩; have J5 := Lib.hid hj4; have B5 := Lib.hid (B4.out.trans (hb4.mono (B4.out.size))); have R5 := Lib.hid (R4.out.butJ hb4 (by omega)); clear hj4 hb4))
    | (go_at_call 39; ((with_reducible refine (KT.out _ (Below.refl _ _) B5.out J5.out).mono ?_); rintro e w9 ⟨o, kids, ok, rfl, hQ, ⟨s9, lg9, un9, hj9⟩, hb9⟩; have J9 := Lib.hid hj9; have HQ := Lib.hid hQ; have HB9 := Lib.hid hb9; have B9 := Lib.hid (B5.out.trans (hb9.mono (B5.out.size))); have R9 := Lib.hid (R5.out.butJ hb9 (by omega)); obtain ⟨c0, c1, c2, c3, c4, c5, c6, c7, c8, c9⟩ := R9.out.parts; have rl := R9.out.lt; have rf := R9.out.free; clear hj9 hb9 hQ)))
  obtain ⟨z0, z1, z2, z3, z4, z5, z6, z7, z8, z9⟩ := (R9.out.set10 (.int .i64 o.kind) (.bool o.g) (.int .u64 (lb 0 o.x)) (.int .u64 (lb 1 o.x)) (.int .u64 (lb 2 o.x)) (.int .u64 (lb 3 o.x)) (.int .u64 o.bits) (.string o.text) (.slice o.la kids.length o.lcap) (.slice o.ka o.keys.length o.kcap)).parts
  have rl5 := R5.out.lt
  exact bodyPost_ret (v := .tuple #[(VT.mk o kids).val, .bool ok]) (by simp [results, Tryz.results17, go_sem, z0, z1, z2, z3, z4, z5, z6, z7, z8, z9, VT.val, VT.cells]) rfl ⟨o, kids, ok, _, w9, s9, lg9, un9, rfl, HQ.out, B5.out, HB9.out, J9.out, J9.out.set10 (by omega) _ _ _ _ _ _ _ _ _ _, B9.out.set10 (Nat.le_refl _) _ _ _ _ _ _ _ _ _ _, rl5, ButS.set10 (S := fun k => k = w.heap.size) w9 (c := w.heap.size) rfl _ _ _ _ _ _ _ _ _ _⟩
set_option maxRecDepth 100000 in
set_option maxHeartbeats 2000000 in
theorem rv_obj (l J : List UInt8) (hl : l.length ≤ 60000000000000) (hJ : jskip l = J) (b : Nat) (lg un : Bool) (w : World) (h : Jr w b (str l) lg un) (r : List UInt8) (hr : J = [123] ++ r) (hno : ∀ P ∈ ([[110, 117, 108, 108], [102, 97, 108, 115, 101], [116, 114, 117, 101], [34], [91]] : List (List UInt8)), Lib.hasPrefix J P = false) (Q : Own → List VT → Bool → World → World → Prop)
    (kt : ∀ W, Below w.heap.size w w → But w.heap.size b w W → Jr W b (str r) lg un → Calls Tryz.prog 40 #[.pointer (some ⟨b, 0, none⟩)] W fun e w' => ∃ (o : Own) (kids : List VT) (ok : Bool), e = .returned (.tuple #[V10 o.kind o.g (lb 0 o.x) (lb 1 o.x) (lb 2 o.x) (lb 3 o.x) o.bits o.text o.la kids.length o.lcap o.ka o.keys.length o.kcap, .bool ok]) ∧ Q o kids ok W w' ∧ (∃ s lg2 un2, Jr w' b s lg2 un2) ∧ But W.heap.size b W w') :
    Calls Tryz.prog 17 #[.pointer (some ⟨b, 0, none⟩)] w fun e w' => ∃ (o : Own) (kids : List VT) (ok : Bool) (W X : World) (s : ByteArray) (lg2 un2 : Bool), e = .returned (.tuple #[(VT.mk o kids).val, .bool ok]) ∧ Q o kids ok W X ∧ But w.heap.size b w W ∧ But W.heap.size b W X ∧ Jr X b s lg2 un2 ∧ Jr w' b s lg2 un2 ∧ But w.heap.size b w w' ∧ w.heap.size < W.heap.size ∧ ButS (fun k => k = w.heap.size) X w' := by
  have hJJ : jskip J = J := by rw [← hJ]; exact jskip_id l
  have hlJ : J.length ≤ 60000000000000 := by rw [← hJ]; have := jskip_len l; omega
  have hbw := h.lt
  have K0 : Hid (∀ W, Jr W b (str l) lg un → Calls Tryz.prog 37 #[.pointer (some ⟨b, 0, none⟩), .string ⟨#[110, 117, 108, 108]⟩] W fun e w' => e = .returned (.bool false) ∧ Jr w' b (str J) lg un ∧ But W.heap.size b W w') := Lib.hid (fun W hW => sgn_no l J hJ ⟨#[110, 117, 108, 108]⟩ (by omega) b lg un W hW (hno _ (by simp)))
  have K1 : Hid (∀ W, Jr W b (str J) lg un → Calls Tryz.prog 37 #[.pointer (some ⟨b, 0, none⟩), .string ⟨#[102, 97, 108, 115, 101]⟩] W fun e w' => e = .returned (.bool false) ∧ Jr w' b (str J) lg un ∧ But W.heap.size b W w') := Lib.hid (fun W hW => sgn_no J J hJJ ⟨#[102, 97, 108, 115, 101]⟩ (by omega) b lg un W hW (hno _ (by simp)))
  have K2 : Hid (∀ W, Jr W b (str J) lg un → Calls Tryz.prog 37 #[.pointer (some ⟨b, 0, none⟩), .string ⟨#[116, 114, 117, 101]⟩] W fun e w' => e = .returned (.bool false) ∧ Jr w' b (str J) lg un ∧ But W.heap.size b W w') := Lib.hid (fun W hW => sgn_no J J hJJ ⟨#[116, 114, 117, 101]⟩ (by omega) b lg un W hW (hno _ (by simp)))
  have K3 : Hid (∀ W, Jr W b (str J) lg un → Calls Tryz.prog 37 #[.pointer (some ⟨b, 0, none⟩), .string ⟨#[34]⟩] W fun e w' => e = .returned (.bool false) ∧ Jr w' b (str J) lg un ∧ But W.heap.size b W w') := Lib.hid (fun W hW => sgn_no J J hJJ ⟨#[34]⟩ (by omega) b lg un W hW (hno _ (by simp)))
  have K4 : Hid (∀ W, Jr W b (str J) lg un → Calls Tryz.prog 37 #[.pointer (some ⟨b, 0, none⟩), .string ⟨#[91]⟩] W fun e w' => e = .returned (.bool false) ∧ Jr w' b (str J) lg un ∧ But W.heap.size b W w') := Lib.hid (fun W hW => sgn_no J J hJJ ⟨#[91]⟩ (by omega) b lg un W hW (hno _ (by simp)))
  have K5 : Hid (∀ W, Jr W b (str J) lg un → Calls Tryz.prog 37 #[.pointer (some ⟨b, 0, none⟩), .string ⟨#[123]⟩] W fun e w' => e = .returned (.bool true) ∧ Jr w' b (str r) lg un ∧ But W.heap.size b W w') := Lib.hid (fun W hW => sgn_yes J J hJJ ⟨#[123]⟩ (by omega) b lg un W hW r hr)
  have KT := Lib.hid kt
  have HJ0 := Lib.hid (h.alloc (.cells #[.int .i64 0, .bool false, .int .u64 0, .int .u64 0, .int .u64 0, .int .u64 0, .int .u64 0, .string ⟨#[]⟩, .slice none 0 0, .slice none 0 0] 32))
  have B0 : Hid (But w.heap.size b w (w.alloc (.cells #[.int .i64 0, .bool false, .int .u64 0, .int .u64 0, .int .u64 0, .int .u64 0, .int .u64 0, .string ⟨#[]⟩, .slice none 0 0, .slice none 0 0] 32))) := Lib.hid (But.of (bal (Below.refl _ _) _))
  have R0 := Lib.hid (Row10.new w (.int .i64 0) (.bool false) (.int .u64 0) (.int .u64 0) (.int .u64 0) (.int .u64 0) (.int .u64 0) (.string ⟨#[]⟩) (.slice none 0 0) (.slice none 0 0))
  clear h hno hJ hJJ kt hr
  go_enter Tryz.func17, Tryz.ntmps17
  go_wp2_with (first
    | (go_at_call 37; ((with_reducible refine (K0.out _ HJ0.out).mono ?_); rintro e w1 ⟨rfl, hj0, hb0⟩; have J1 := Lib.hid hj0; have B1 := Lib.hid (B0.out.trans (hb0.mono (by simp))); have R1 := Lib.hid (R0.out.butJ hb0 (by omega)); clear hj0 hb0))
    | (go_at_call 37; ((with_reducible refine (K1.out _ J1.out).mono ?_); rintro e w2 ⟨rfl, hj1, hb1⟩; have J2 := Lib.hid hj1; have B2 := Lib.hid (B1.out.trans (hb1.mono (B1.out.size))); have R2 := Lib.hid (R1.out.butJ hb1 (by omega)); clear hj1 hb1))
    | (go_at_call 37; ((with_reducible refine (K2.out _ J2.out).mono ?_); rintro e w3 ⟨rfl, hj2, hb2⟩; have J3 := Lib.hid hj2; have B3 := Lib.hid (B2.out.trans (hb2.mono (B2.out.size))); have R3 := Lib.hid (R2.out.butJ hb2 (by omega)); clear hj2 hb2))
    | (go_at_call 37; ((with_reducible refine (K3.out _ J3.out).mono ?_); rintro e w4 ⟨rfl, hj3, hb3⟩; have J4 := Lib.hid hj3; have B4 := Lib.hid (B3.out.trans (hb3.mono (B3.out.size))); have R4 := Lib.hid (R3.out.butJ hb3 (by omega)); clear hj3 hb3))
    | (go_at_call 37; ((with_reducible refine (K4.out _ J4.out).mono ?_); rintro e w5 ⟨rfl, hj4, hb4⟩; have J5 := Lib.hid hj4; have B5 := Lib.hid (B4.out.trans (hb4.mono (B4.out.size))); have R5 := Lib.hid (R4.out.butJ hb4 (by omega)); clear hj4 hb4))
    | (go_at_call 37; ((with_reducible refine (K5.out _ J5.out).mono ?_); rintro e w6 ⟨rfl, hj5, hb5⟩; have J6 := Lib.hid hj5; have B6 := Lib.hid (B5.out.trans (hb5.mono (B5.out.size))); have R6 := Lib.hid (R5.out.butJ hb5 (by omega)); clear hj5 hb5))
    | (go_at_call 40; ((with_reducible refine (KT.out _ (Below.refl _ _) B6.out J6.out).mono ?_); rintro e w9 ⟨o, kids, ok, rfl, hQ, ⟨s9, lg9, un9, hj9⟩, hb9⟩; have J9 := Lib.hid hj9; have HQ := Lib.hid hQ; have HB9 := Lib.hid hb9; have B9 := Lib.hid (B6.out.trans (hb9.mono (B6.out.size))); have R9 := Lib.hid (R6.out.butJ hb9 (by omega)); obtain ⟨c0, c1, c2, c3, c4, c5, c6, c7, c8, c9⟩ := R9.out.parts; have rl := R9.out.lt; have rf := R9.out.free; clear hj9 hb9 hQ)))
  obtain ⟨z0, z1, z2, z3, z4, z5, z6, z7, z8, z9⟩ := (R9.out.set10 (.int .i64 o.kind) (.bool o.g) (.int .u64 (lb 0 o.x)) (.int .u64 (lb 1 o.x)) (.int .u64 (lb 2 o.x)) (.int .u64 (lb 3 o.x)) (.int .u64 o.bits) (.string o.text) (.slice o.la kids.length o.lcap) (.slice o.ka o.keys.length o.kcap)).parts
  have rl6 := R6.out.lt
  exact bodyPost_ret (v := .tuple #[(VT.mk o kids).val, .bool ok]) (by simp [results, Tryz.results17, go_sem, z0, z1, z2, z3, z4, z5, z6, z7, z8, z9, VT.val, VT.cells]) rfl ⟨o, kids, ok, _, w9, s9, lg9, un9, rfl, HQ.out, B6.out, HB9.out, J9.out, J9.out.set10 (by omega) _ _ _ _ _ _ _ _ _ _, B9.out.set10 (Nat.le_refl _) _ _ _ _ _ _ _ _ _ _, rl6, ButS.set10 (S := fun k => k = w.heap.size) w9 (c := w.heap.size) rfl _ _ _ _ _ _ _ _ _ _⟩
set_option maxRecDepth 100000 in
set_option maxHeartbeats 2000000 in
theorem rv_num (l J : List UInt8) (hl : l.length ≤ 60000000000000) (hJ : jskip l = J) (b : Nat) (lg un : Bool) (w : World) (h : Jr w b (str l) lg un) (hno : ∀ P ∈ ([[110, 117, 108, 108], [102, 97, 108, 115, 101], [116, 114, 117, 101], [34], [91], [123]] : List (List UInt8)), Lib.hasPrefix J P = false) (Q : Own → List VT → Bool → World → World → Prop)
    (kt : ∀ W, Below w.heap.size w w → But w.heap.size b w W → Jr W b (str J) lg un → Calls Tryz.prog 41 #[.pointer (some ⟨b, 0, none⟩)] W fun e w' => ∃ (o : Own) (kids : List VT) (ok : Bool), e = .returned (.tuple #[V10 o.kind o.g (lb 0 o.x) (lb 1 o.x) (lb 2 o.x) (lb 3 o.x) o.bits o.text o.la kids.length o.lcap o.ka o.keys.length o.kcap, .bool ok]) ∧ Q o kids ok W w' ∧ (∃ s lg2 un2, Jr w' b s lg2 un2) ∧ But W.heap.size b W w') :
    Calls Tryz.prog 17 #[.pointer (some ⟨b, 0, none⟩)] w fun e w' => ∃ (o : Own) (kids : List VT) (ok : Bool) (W X : World) (s : ByteArray) (lg2 un2 : Bool), e = .returned (.tuple #[(VT.mk o kids).val, .bool ok]) ∧ Q o kids ok W X ∧ But w.heap.size b w W ∧ But W.heap.size b W X ∧ Jr X b s lg2 un2 ∧ Jr w' b s lg2 un2 ∧ But w.heap.size b w w' ∧ w.heap.size < W.heap.size ∧ ButS (fun k => k = w.heap.size) X w' := by
  have hJJ : jskip J = J := by rw [← hJ]; exact jskip_id l
  have hlJ : J.length ≤ 60000000000000 := by rw [← hJ]; have := jskip_len l; omega
  have hbw := h.lt
  have K0 : Hid (∀ W, Jr W b (str l) lg un → Calls Tryz.prog 37 #[.pointer (some ⟨b, 0, none⟩), .string ⟨#[110, 117, 108, 108]⟩] W fun e w' => e = .returned (.bool false) ∧ Jr w' b (str J) lg un ∧ But W.heap.size b W w') := Lib.hid (fun W hW => sgn_no l J hJ ⟨#[110, 117, 108, 108]⟩ (by omega) b lg un W hW (hno _ (by simp)))
  have K1 : Hid (∀ W, Jr W b (str J) lg un → Calls Tryz.prog 37 #[.pointer (some ⟨b, 0, none⟩), .string ⟨#[102, 97, 108, 115, 101]⟩] W fun e w' => e = .returned (.bool false) ∧ Jr w' b (str J) lg un ∧ But W.heap.size b W w') := Lib.hid (fun W hW => sgn_no J J hJJ ⟨#[102, 97, 108, 115, 101]⟩ (by omega) b lg un W hW (hno _ (by simp)))
  have K2 : Hid (∀ W, Jr W b (str J) lg un → Calls Tryz.prog 37 #[.pointer (some ⟨b, 0, none⟩), .string ⟨#[116, 114, 117, 101]⟩] W fun e w' => e = .returned (.bool false) ∧ Jr w' b (str J) lg un ∧ But W.heap.size b W w') := Lib.hid (fun W hW => sgn_no J J hJJ ⟨#[116, 114, 117, 101]⟩ (by omega) b lg un W hW (hno _ (by simp)))
  have K3 : Hid (∀ W, Jr W b (str J) lg un → Calls Tryz.prog 37 #[.pointer (some ⟨b, 0, none⟩), .string ⟨#[34]⟩] W fun e w' => e = .returned (.bool false) ∧ Jr w' b (str J) lg un ∧ But W.heap.size b W w') := Lib.hid (fun W hW => sgn_no J J hJJ ⟨#[34]⟩ (by omega) b lg un W hW (hno _ (by simp)))
  have K4 : Hid (∀ W, Jr W b (str J) lg un → Calls Tryz.prog 37 #[.pointer (some ⟨b, 0, none⟩), .string ⟨#[91]⟩] W fun e w' => e = .returned (.bool false) ∧ Jr w' b (str J) lg un ∧ But W.heap.size b W w') := Lib.hid (fun W hW => sgn_no J J hJJ ⟨#[91]⟩ (by omega) b lg un W hW (hno _ (by simp)))
  have K5 : Hid (∀ W, Jr W b (str J) lg un → Calls Tryz.prog 37 #[.pointer (some ⟨b, 0, none⟩), .string ⟨#[123]⟩] W fun e w' => e = .returned (.bool false) ∧ Jr w' b (str J) lg un ∧ But W.heap.size b W w') := Lib.hid (fun W hW => sgn_no J J hJJ ⟨#[123]⟩ (by omega) b lg un W hW (hno _ (by simp)))
  have KT := Lib.hid kt
  have HJ0 := Lib.hid (h.alloc (.cells #[.int .i64 0, .bool false, .int .u64 0, .int .u64 0, .int .u64 0, .int .u64 0, .int .u64 0, .string ⟨#[]⟩, .slice none 0 0, .slice none 0 0] 32))
  have B0 : Hid (But w.heap.size b w (w.alloc (.cells #[.int .i64 0, .bool false, .int .u64 0, .int .u64 0, .int .u64 0, .int .u64 0, .int .u64 0, .string ⟨#[]⟩, .slice none 0 0, .slice none 0 0] 32))) := Lib.hid (But.of (bal (Below.refl _ _) _))
  have R0 := Lib.hid (Row10.new w (.int .i64 0) (.bool false) (.int .u64 0) (.int .u64 0) (.int .u64 0) (.int .u64 0) (.int .u64 0) (.string ⟨#[]⟩) (.slice none 0 0) (.slice none 0 0))
  clear h hno hJ hJJ kt
  go_enter Tryz.func17, Tryz.ntmps17
  go_wp2_with (first
    | (go_at_call 37; ((with_reducible refine (K0.out _ HJ0.out).mono ?_); rintro e w1 ⟨rfl, hj0, hb0⟩; have J1 := Lib.hid hj0; have B1 := Lib.hid (B0.out.trans (hb0.mono (by simp))); have R1 := Lib.hid (R0.out.butJ hb0 (by omega)); clear hj0 hb0))
    | (go_at_call 37; ((with_reducible refine (K1.out _ J1.out).mono ?_); rintro e w2 ⟨rfl, hj1, hb1⟩; have J2 := Lib.hid hj1; have B2 := Lib.hid (B1.out.trans (hb1.mono (B1.out.size))); have R2 := Lib.hid (R1.out.butJ hb1 (by omega)); clear hj1 hb1))
    | (go_at_call 37; ((with_reducible refine (K2.out _ J2.out).mono ?_); rintro e w3 ⟨rfl, hj2, hb2⟩; have J3 := Lib.hid hj2; have B3 := Lib.hid (B2.out.trans (hb2.mono (B2.out.size))); have R3 := Lib.hid (R2.out.butJ hb2 (by omega)); clear hj2 hb2))
    | (go_at_call 37; ((with_reducible refine (K3.out _ J3.out).mono ?_); rintro e w4 ⟨rfl, hj3, hb3⟩; have J4 := Lib.hid hj3; have B4 := Lib.hid (B3.out.trans (hb3.mono (B3.out.size))); have R4 := Lib.hid (R3.out.butJ hb3 (by omega)); clear hj3 hb3))
    | (go_at_call 37; ((with_reducible refine (K4.out _ J4.out).mono ?_); rintro e w5 ⟨rfl, hj4, hb4⟩; have J5 := Lib.hid hj4; have B5 := Lib.hid (B4.out.trans (hb4.mono (B4.out.size))); have R5 := Lib.hid (R4.out.butJ hb4 (by omega)); clear hj4 hb4))
    | (go_at_call 37; ((with_reducible refine (K5.out _ J5.out).mono ?_); rintro e w6 ⟨rfl, hj5, hb5⟩; have J6 := Lib.hid hj5; have B6 := Lib.hid (B5.out.trans (hb5.mono (B5.out.size))); have R6 := Lib.hid (R5.out.butJ hb5 (by omega)); clear hj5 hb5))
    | (go_at_call 41; ((with_reducible refine (KT.out _ (Below.refl _ _) B6.out J6.out).mono ?_); rintro e w9 ⟨o, kids, ok, rfl, hQ, ⟨s9, lg9, un9, hj9⟩, hb9⟩; have J9 := Lib.hid hj9; have HQ := Lib.hid hQ; have HB9 := Lib.hid hb9; have B9 := Lib.hid (B6.out.trans (hb9.mono (B6.out.size))); have R9 := Lib.hid (R6.out.butJ hb9 (by omega)); obtain ⟨c0, c1, c2, c3, c4, c5, c6, c7, c8, c9⟩ := R9.out.parts; have rl := R9.out.lt; have rf := R9.out.free; clear hj9 hb9 hQ)))
  obtain ⟨z0, z1, z2, z3, z4, z5, z6, z7, z8, z9⟩ := (R9.out.set10 (.int .i64 o.kind) (.bool o.g) (.int .u64 (lb 0 o.x)) (.int .u64 (lb 1 o.x)) (.int .u64 (lb 2 o.x)) (.int .u64 (lb 3 o.x)) (.int .u64 o.bits) (.string o.text) (.slice o.la kids.length o.lcap) (.slice o.ka o.keys.length o.kcap)).parts
  have rl6 := R6.out.lt
  exact bodyPost_ret (v := .tuple #[(VT.mk o kids).val, .bool ok]) (by simp [results, Tryz.results17, go_sem, z0, z1, z2, z3, z4, z5, z6, z7, z8, z9, VT.val, VT.cells]) rfl ⟨o, kids, ok, _, w9, s9, lg9, un9, rfl, HQ.out, B6.out, HB9.out, J9.out, J9.out.set10 (by omega) _ _ _ _ _ _ _ _ _ _, B9.out.set10 (Nat.le_refl _) _ _ _ _ _ _ _ _ _ _, rl6, ButS.set10 (S := fun k => k = w.heap.size) w9 (c := w.heap.size) rfl _ _ _ _ _ _ _ _ _ _⟩
end Go.Proofs.YtebfggiodhaahaaGreatDoor
end
section
namespace Go.Proofs.YtebfggiodhaahaaGreatDoor
open Go.RowKit Go.Shelf
set_option linter.unusedVariables false

theorem jv_skip {l r : List UInt8} {T : VT} {lg un : Bool} (h : JV l T r lg un) : JV (jskip l) T r lg un := by
  have e := jskip_id l
  cases h with
  | nul h => exact .nul (by rw [e]; exact h)
  | fal h => exact .fal (by rw [e]; exact h)
  | tru h => exact .tru (by rw [e]; exact h)
  | txt f h hx => exact .txt f (by rw [e]; exact h) hx
  | num h hc hk hxx hy hd => exact .num (by rw [e]; exact h) hc hk hxx hy hd
  | lng h hc hd => exact .lng (by rw [e]; exact h) hc hd
  | unr h hc hd => exact .unr (by rw [e]; exact h) hc hd
  | arr0 h h2 => exact .arr0 (by rw [e]; exact h) h2
  | arr h h2 ha => exact .arr (by rw [e]; exact h) h2 ha
theorem ja_skip {t r : List UInt8} {ks : List VT} {lg un : Bool} (h : JA t ks r lg un) : JA (jskip t) ks r lg un := by
  cases h with
  | last hv hl h => exact .last (jv_skip hv) (by rw [jskip_id]; exact hl) h
  | more hv hl h ha => exact .more (jv_skip hv) (by rw [jskip_id]; exact hl) h ha
/-- What value answers where it reads a tree. -/
def VQ (b : Nat) (T : VT) (r : List UInt8) (lg un : Bool) (w : World) (e : Ending) (w' : World) : Prop :=
  ∃ (o : Own) (kids : List VT), e = .returned (.tuple #[V10 o.kind o.g (lb 0 o.x) (lb 1 o.x) (lb 2 o.x) (lb 3 o.x) o.bits o.text o.la kids.length o.lcap o.ka o.keys.length o.kcap, .bool true]) ∧ (VT.mk o kids).In w' ∧ (VT.mk o kids).Off (fun k => k < w.heap.size) ∧ er (VT.mk o kids) = T ∧ Jr w' b (str r) lg un ∧ But w.heap.size b w w'
def VC (w0 : World) (b : Nat) (l : List UInt8) (T : VT) (r : List UInt8) (lg1 un1 : Bool) : Prop :=
  ∀ (lg un : Bool) (w : World), Below w0.heap.size w0 w → Jr w b (str l) lg un → Calls Tryz.prog 17 #[.pointer (some ⟨b, 0, none⟩)] w fun e w' => VQ b T r (lg || lg1) (un || un1) w e w'
set_option maxRecDepth 100000 in
set_option maxHeartbeats 2000000 in
theorem rarr_nil (t r : List UInt8) (ht : t.length ≤ 60000000000000) (hr : jskip t = 93 :: r) (b : Nat) (lg un : Bool) (w : World) (h : Jr w b (str t) lg un) :
    Calls Tryz.prog 39 #[.pointer (some ⟨b, 0, none⟩)] w fun e w' => VQ b (arrE []) r lg un w e w' := by
  have KS : Hid (∀ W, Jr W b (str t) lg un → Calls Tryz.prog 37 #[.pointer (some ⟨b, 0, none⟩), .string ⟨#[93]⟩] W fun e w' => e = .returned (.bool true) ∧ Jr w' b (str r) lg un ∧ But W.heap.size b W w') := Lib.hid (fun W hW => sgn_yes t _ hr ⟨#[93]⟩ (by omega) b lg un W hW r rfl)
  have hbw := h.lt
  have J0 : Hid (Jr ((w.alloc (.cells #[.int .i64 0, .bool false, .int .u64 0, .int .u64 0, .int .u64 0, .int .u64 0, .int .u64 0, .string ⟨#[]⟩, .slice none 0 0, .slice none 0 0] 32)).alloc (.cells #[.int .i64 7, .bool false, .int .u64 0, .int .u64 0, .int .u64 0, .int .u64 0, .int .u64 0, .string ⟨#[]⟩, .slice none 0 0, .slice none 0 0] 32)) b (str t) lg un) := Lib.hid ((h.alloc _).alloc _)
  have B0 : Hid (But w.heap.size b w ((w.alloc (.cells #[.int .i64 0, .bool false, .int .u64 0, .int .u64 0, .int .u64 0, .int .u64 0, .int .u64 0, .string ⟨#[]⟩, .slice none 0 0, .slice none 0 0] 32)).alloc (.cells #[.int .i64 7, .bool false, .int .u64 0, .int .u64 0, .int .u64 0, .int .u64 0, .int .u64 0, .string ⟨#[]⟩, .slice none 0 0, .slice none 0 0] 32))) := Lib.hid (But.of (bal (bal (Below.refl _ _) _) _))
  have A0 : Hid (Row10 ((w.alloc (.cells #[.int .i64 0, .bool false, .int .u64 0, .int .u64 0, .int .u64 0, .int .u64 0, .int .u64 0, .string ⟨#[]⟩, .slice none 0 0, .slice none 0 0] 32)).alloc (.cells #[.int .i64 7, .bool false, .int .u64 0, .int .u64 0, .int .u64 0, .int .u64 0, .int .u64 0, .string ⟨#[]⟩, .slice none 0 0, .slice none 0 0] 32)) w.heap.size (.int .i64 0) (.bool false) (.int .u64 0) (.int .u64 0) (.int .u64 0) (.int .u64 0) (.int .u64 0) (.string ⟨#[]⟩) (.slice none 0 0) (.slice none 0 0)) := Lib.hid ((Row10.new w (.int .i64 0) (.bool false) (.int .u64 0) (.int .u64 0) (.int .u64 0) (.int .u64 0) (.int .u64 0) (.string ⟨#[]⟩) (.slice none 0 0) (.slice none 0 0)).alloc _)
  have D0 : Hid (Row10 ((w.alloc (.cells #[.int .i64 0, .bool false, .int .u64 0, .int .u64 0, .int .u64 0, .int .u64 0, .int .u64 0, .string ⟨#[]⟩, .slice none 0 0, .slice none 0 0] 32)).alloc (.cells #[.int .i64 7, .bool false, .int .u64 0, .int .u64 0, .int .u64 0, .int .u64 0, .int .u64 0, .string ⟨#[]⟩, .slice none 0 0, .slice none 0 0] 32)) (w.heap.size + 1) (.int .i64 7) (.bool false) (.int .u64 0) (.int .u64 0) (.int .u64 0) (.int .u64 0) (.int .u64 0) (.string ⟨#[]⟩) (.slice none 0 0) (.slice none 0 0)) := Lib.hid (hnewV (W := w.alloc (.cells #[.int .i64 0, .bool false, .int .u64 0, .int .u64 0, .int .u64 0, .int .u64 0, .int .u64 0, .string ⟨#[]⟩, .slice none 0 0, .slice none 0 0] 32)) (by simp))
  clear h hr
  go_enter Tryz.func39, Tryz.ntmps39
  go_wp2_with (go_at_call 37; ((with_reducible refine (KS.out _ J0.out).mono ?_); rintro e w1 ⟨rfl, hj, hb⟩; have J1 := Lib.hid hj; have B1 := Lib.hid (B0.out.trans (hb.mono (by simp; omega))); have A1 := Lib.hid (A0.out.butJ hb (by omega)); have D1 := Lib.hid (D0.out.butJ hb (by omega)); obtain ⟨c0, c1, c2, c3, c4, c5, c6, c7, c8, c9⟩ := A1.out.parts; have rl := A1.out.lt; have rf := A1.out.free; obtain ⟨d0, d1, d2, d3, d4, d5, d6, d7, d8, d9⟩ := D1.out.parts; clear hj hb))
  obtain ⟨z0, z1, z2, z3, z4, z5, z6, z7, z8, z9⟩ := (A1.out.set10 (.int .i64 7) (.bool false) (.int .u64 0) (.int .u64 0) (.int .u64 0) (.int .u64 0) (.int .u64 0) (.string ⟨#[]⟩) (.slice none 0 0) (.slice none 0 0)).parts
  refine bodyPost_ret (v := .tuple #[V10 7 false 0 0 0 0 0 ⟨#[]⟩ none 0 0 none 0 0, .bool true]) (by simp [results, Tryz.results39, go_sem, z0, z1, z2, z3, z4, z5, z6, z7, z8, z9]) rfl ?_
  refine ⟨⟨7, false, 0, 0, ⟨#[]⟩, none, 0, none, 0, []⟩, [], by simp only [lb_zero]; rfl, .mk _ _ ⟨⟨by show _ ≤ (7 : Int); omega, by show (7 : Int) ≤ _; omega⟩, by show 0 < _; omega, ⟨Int.le_refl _, by show (0 : Int) ≤ _; omega⟩, Nat.zero_le _, ⟨Nat.le_refl _, Nat.zero_le _⟩, ⟨Nat.le_refl _, Nat.zero_le _⟩, fun s h => by cases h⟩ ⟨0, 0, fun h => absurd h (by simp), fun i s h => by simp at h⟩ ⟨0, 0, fun h => absurd h (by simp), fun i s h => by simp at h⟩ (fun i t h => by simp at h), .mk _ _ (fun h => absurd h (by simp)) (fun h => absurd h (by simp)) (fun t h => by cases h), by rw [er_mk]; rfl, J1.out.set10 (by omega) _ _ _ _ _ _ _ _ _ _, B1.out.set10 (Nat.le_refl _) _ _ _ _ _ _ _ _ _ _⟩
theorem Jr.drewR {W : World} {b : Nat} {s : ByteArray} {lg un : Bool} (h : Jr W b s lg un) : Jr W.drew b s lg un := h
theorem Jr.grownJ {W W' : World} {b : Nat} {s : ByteArray} {lg un : Bool} {row : Option Nat} (h : Jr W b s lg un) (hg : W.grownBy W' row) (hne : some b ≠ row) : Jr W' b s lg un := (hg.block b h.lt hne).trans h
theorem Vr.away {W : World} {base : Nat} {v : Value} {ts : List VT} (h : Vr W base v ts) {c : Nat} (hc : c < base) : some c ≠ v.ownBlock := by
  intro e
  have := (World.ownsRow.lt h c e.symm).1
  omega
theorem Vr.butV {W W' : World} {base b : Nat} {v : Value} {ts : List VT} (h : Vr W base v ts) (k : But W.heap.size b W W') (hb : b < base) : Vr W' base v ts := by
  refine ⟨h.1, ?_⟩
  rcases h.2 with h2 | ⟨g, cap, cur, h3, h4, h5, h6⟩
  · exact Or.inl h2
  · exact Or.inr ⟨g, cap, cur, h3, h4, by rw [k.block g (Array.getElem?_eq_some_iff.1 h5).1 (by omega)]; exact h5, h6⟩
theorem Vr.setV {W : World} {base b i : Nat} {v : Value} {ts : List VT} (h : Vr W base v ts) (hb : b < base) (u : Value) : Vr (W.setCell ⟨b, i, none⟩ u) base v ts := by
  refine ⟨h.1, ?_⟩
  rcases h.2 with h2 | ⟨g, cap, cur, h3, h4, h5, h6⟩
  · exact Or.inl h2
  · exact Or.inr ⟨g, cap, cur, h3, h4, by rw [Below.heap_setCell W ⟨b, i, none⟩ u g (by show g ≠ b; omega)]; exact h5, h6⟩
theorem Vr.lies {W : World} {base q n c : Nat} {ts : List VT} (h : Vr W base (.slice (some ⟨q, 0, none⟩) n c) ts) (hn : ts.length = n) : n ≤ c ∧ c ≤ maxLen ∧ base ≤ q ∧ q < W.heap.size ∧ KidsAt W (some ⟨q, 0, none⟩) ts := by
  have hk := kids_rowJ hn (by rw [← hn]; rw [← hn] at h; exact h)
  rcases h.2 with ⟨h2, _⟩ | ⟨g, cap, cur, h3, h4, h5, h6, h7, _⟩
  · cases h2
  · cases h3
    exact ⟨by omega, h7, h4, (Array.getElem?_eq_some_iff.1 h5).1, hk⟩
theorem kids_butS {S : Nat → Prop} {W W' : World} {q : Nat} {ts : List VT} (h : KidsAt W (some ⟨q, 0, none⟩) ts) (k : ButS S W W') (hq : ¬ S q) : KidsAt W' (some ⟨q, 0, none⟩) ts := by
  obtain ⟨b, off, h1, h2⟩ := h
  refine ⟨b, off, h1, fun i t hi j u hu => ?_⟩
  have hp : 0 < ts.length := Nat.lt_of_le_of_lt (Nat.zero_le i) (List.getElem?_eq_some_iff.1 hi).1
  have hbq := h1 hp
  simp only [Option.some.injEq, Addr.mk.injEq] at hbq
  have hc := h2 i t hi j u hu
  exact cell_offJ hc (k.block _ (cell_lt hc) (by rw [← hbq.1]; exact hq))
/-- Blocks that an element's own do not touch: what was there, the array's own two, its row. -/
def SX (w : World) (v : Value) (k : Nat) : Prop := k < w.heap.size + 2 ∨ v.ownBlock = some k
end Go.Proofs.YtebfggiodhaahaaGreatDoor
end
section
namespace Go.Proofs.YtebfggiodhaahaaGreatDoor
open Go.RowKit Go.Shelf
set_option linter.unusedVariables false

/-- The end: there, r behind it; or missing, r there in its place. -/
def EndP (c : UInt8) (ok : Bool) (r3 r : List UInt8) : Prop := (ok = true ∧ jskip r3 = c :: r) ∨ (ok = false ∧ jskip r3 = r ∧ Lib.hasPrefix (jskip r3) [44] = false ∧ Lib.hasPrefix (jskip r3) [c] = false)
theorem EndP.no {c : UInt8} {ok : Bool} {r3 r : List UInt8} (h : EndP c ok r3 r) (hc : c ≠ 44) : Lib.hasPrefix (jskip r3) [44] = false := by
  rcases h with ⟨_, h⟩ | ⟨_, _, h, _⟩
  · rw [h]
    exact pre_no hc
  · exact h
theorem EndP.sign {c : UInt8} {ok : Bool} {r3 r : List UInt8} (h : EndP c ok r3 r) (hl : (jskip r3).length ≤ 70000000000000) (b : Nat) (lg un : Bool) (W : World) (hW : Jr W b (str (jskip r3)) lg un) :
    Calls Tryz.prog 37 #[.pointer (some ⟨b, 0, none⟩), .string ⟨#[c]⟩] W fun e w' => e = .returned (.bool ok) ∧ Jr w' b (str r) lg un ∧ But W.heap.size b W w' := by
  rcases h with ⟨rfl, h⟩ | ⟨rfl, h, _, h2⟩
  · exact sgn_yes (jskip r3) (c :: r) (by rw [jskip_id]; exact h) ⟨#[c]⟩ hl b lg un W hW r rfl
  · rw [← h]
    exact sgn_no (jskip r3) _ (jskip_id r3) ⟨#[c]⟩ hl b lg un W hW h2
/-- What comes of it: the value, whether its end was there. -/
def VQo (ok : Bool) (b : Nat) (T : VT) (r : List UInt8) (lg un : Bool) (w : World) (e : Ending) (w' : World) : Prop :=
  ∃ (o : Own) (kids : List VT), e = .returned (.tuple #[V10 o.kind o.g (lb 0 o.x) (lb 1 o.x) (lb 2 o.x) (lb 3 o.x) o.bits o.text o.la kids.length o.lcap o.ka o.keys.length o.kcap, .bool ok]) ∧ (VT.mk o kids).In w' ∧ (VT.mk o kids).Off (fun k => k < w.heap.size) ∧ er (VT.mk o kids) = T ∧ Jr w' b (str r) lg un ∧ But w.heap.size b w w'
/-- Elements, from the first one on. -/
inductive JAE (ok : Bool) (P : List UInt8 → VT → List UInt8 → Bool → Bool → Prop) : List UInt8 → List VT → List UInt8 → Bool → Bool → Prop
  | last {t r1 r : List UInt8} {T : VT} {lg un : Bool} (hv : P t T r1 lg un) (hl : r1.length < (jskip t).length) (h : EndP 93 ok r1 r) : JAE ok P t [T] r lg un
  | more {t r1 t2 r : List UInt8} {T : VT} {Ts : List VT} {lg un lg2 un2 : Bool} (hv : P t T r1 lg un) (hl : r1.length < (jskip t).length) (h : jskip r1 = 44 :: t2) (ha : JAE ok P t2 Ts r lg2 un2) : JAE ok P t (T :: Ts) r (lg || lg2) (un || un2)
set_option maxRecDepth 100000 in
set_option maxHeartbeats 16000000 in
theorem rarrE (ok : Bool) (P : List UInt8 → VT → List UInt8 → Bool → Bool → Prop) (w0 : World) (b : Nat) (hb0 : w0.heap.size ≤ b) (t0 r : List UInt8) (ks : List VT) (lg1 un1 : Bool) (ht0 : t0.length ≤ 900000000000) (hne : Lib.hasPrefix (jskip t0) [93] = false) (hja2 : JAE ok P (jskip t0) ks r lg1 un1)
    (ih : ∀ (t : List UInt8) (T : VT) (r1 : List UInt8) (l u : Bool), t.length ≤ t0.length → P t T r1 l u → VC w0 b t T r1 l u) (lg un : Bool) (w : World) (hw : Below w0.heap.size w0 w) (h : Jr w b (str t0) lg un) :
    Calls Tryz.prog 39 #[.pointer (some ⟨b, 0, none⟩)] w fun e w' => VQo ok b (arrE ks) r (lg || lg1) (un || un1) w e w' := by
  have HIH := Lib.hid ih; have HW := Lib.hid hw
  have KS : Hid (∀ W, Jr W b (str t0) lg un → Calls Tryz.prog 37 #[.pointer (some ⟨b, 0, none⟩), .string ⟨#[93]⟩] W fun e w' => e = .returned (.bool false) ∧ Jr w' b (str (jskip t0)) lg un ∧ But W.heap.size b W w') := Lib.hid (fun W hW => sgn_no t0 _ rfl ⟨#[93]⟩ (by omega) b lg un W hW hne)
  have HJA2 : Hid (JAE ok P (jskip t0) ks r lg1 un1) := Lib.hid hja2
  have hbw := h.lt
  have J0 : Hid (Jr ((w.alloc (.cells #[.int .i64 0, .bool false, .int .u64 0, .int .u64 0, .int .u64 0, .int .u64 0, .int .u64 0, .string ⟨#[]⟩, .slice none 0 0, .slice none 0 0] 32)).alloc (.cells #[.int .i64 7, .bool false, .int .u64 0, .int .u64 0, .int .u64 0, .int .u64 0, .int .u64 0, .string ⟨#[]⟩, .slice none 0 0, .slice none 0 0] 32)) b (str t0) lg un) := Lib.hid ((h.alloc _).alloc _)
  have B0 : Hid (But w.heap.size b w ((w.alloc (.cells #[.int .i64 0, .bool false, .int .u64 0, .int .u64 0, .int .u64 0, .int .u64 0, .int .u64 0, .string ⟨#[]⟩, .slice none 0 0, .slice none 0 0] 32)).alloc (.cells #[.int .i64 7, .bool false, .int .u64 0, .int .u64 0, .int .u64 0, .int .u64 0, .int .u64 0, .string ⟨#[]⟩, .slice none 0 0, .slice none 0 0] 32))) := Lib.hid (But.of (bal (bal (Below.refl _ _) _) _))
  have A0 : Hid (Row10 ((w.alloc (.cells #[.int .i64 0, .bool false, .int .u64 0, .int .u64 0, .int .u64 0, .int .u64 0, .int .u64 0, .string ⟨#[]⟩, .slice none 0 0, .slice none 0 0] 32)).alloc (.cells #[.int .i64 7, .bool false, .int .u64 0, .int .u64 0, .int .u64 0, .int .u64 0, .int .u64 0, .string ⟨#[]⟩, .slice none 0 0, .slice none 0 0] 32)) w.heap.size (.int .i64 0) (.bool false) (.int .u64 0) (.int .u64 0) (.int .u64 0) (.int .u64 0) (.int .u64 0) (.string ⟨#[]⟩) (.slice none 0 0) (.slice none 0 0)) := Lib.hid ((Row10.new w (.int .i64 0) (.bool false) (.int .u64 0) (.int .u64 0) (.int .u64 0) (.int .u64 0) (.int .u64 0) (.string ⟨#[]⟩) (.slice none 0 0) (.slice none 0 0)).alloc _)
  have D0 : Hid (Row10 ((w.alloc (.cells #[.int .i64 0, .bool false, .int .u64 0, .int .u64 0, .int .u64 0, .int .u64 0, .int .u64 0, .string ⟨#[]⟩, .slice none 0 0, .slice none 0 0] 32)).alloc (.cells #[.int .i64 7, .bool false, .int .u64 0, .int .u64 0, .int .u64 0, .int .u64 0, .int .u64 0, .string ⟨#[]⟩, .slice none 0 0, .slice none 0 0] 32)) (w.heap.size + 1) (.int .i64 7) (.bool false) (.int .u64 0) (.int .u64 0) (.int .u64 0) (.int .u64 0) (.int .u64 0) (.string ⟨#[]⟩) (.slice none 0 0) (.slice none 0 0)) := Lib.hid (hnewV (W := w.alloc (.cells #[.int .i64 0, .bool false, .int .u64 0, .int .u64 0, .int .u64 0, .int .u64 0, .int .u64 0, .string ⟨#[]⟩, .slice none 0 0, .slice none 0 0] 32)) (by simp))
  have hjl := jskip_len t0
  clear h hne ih hja2 hw
  go_enter Tryz.func39, Tryz.ntmps39
  go_wp2_with (go_at_call 37; ((with_reducible refine (KS.out _ J0.out).mono ?_); rintro e w1 ⟨rfl, hj, hb⟩; have J1 := Lib.hid hj; have B1 := Lib.hid (B0.out.trans (hb.mono (by simp; omega))); have A1 := Lib.hid (A0.out.butJ hb (by omega)); have D1 := Lib.hid (D0.out.butJ hb (by omega)); clear hj hb))
  go_loopw [5, 6] (fun _ _ wr => ∃ (ts rest : List VT) (t : List UInt8) (lg2 un2 lg3 un3 : Bool) (la : Option Addr) (lc : Nat), Hid (JAE ok P t rest r lg3 un3) ∧ Hid (ts.map er ++ rest = ks) ∧ Hid ((lg2 || lg3) = (lg || lg1) ∧ (un2 || un3) = (un || un1)) ∧ ts.length + t.length ≤ t0.length ∧ Hid (Jr wr b (str t) lg2 un2) ∧ Hid (Row10 wr (w.heap.size + 1) (.int .i64 7) (.bool false) (.int .u64 0) (.int .u64 0) (.int .u64 0) (.int .u64 0) (.int .u64 0) (.string ⟨#[]⟩) (.slice la ts.length lc) (.slice none 0 0)) ∧ Hid (Row10 wr w.heap.size (.int .i64 0) (.bool false) (.int .u64 0) (.int .u64 0) (.int .u64 0) (.int .u64 0) (.int .u64 0) (.string ⟨#[]⟩) (.slice none 0 0) (.slice none 0 0)) ∧ Hid (Vr wr (w.heap.size + 2) (.slice la ts.length lc) ts) ∧ Hid (∀ u ∈ ts, u.In wr ∧ u.Off (SX w (.slice la ts.length lc))) ∧ Hid (But w.heap.size b w wr)) (fun _ _ wr => restJ wr b)
  case atStart => exact ⟨[], ks, jskip t0, lg, un, lg1, un1, none, 0, HJA2, (by show _ = _; rfl), (by show _ ∧ _; exact ⟨rfl, rfl⟩), by simp; omega, J1, D1, A1, Vr.nil _ _, (show Hid _ from fun u hu => by cases hu), B1⟩
  case round =>
    obtain ⟨ts, rest, t, lg2, un2, lg3, un3, la, lc, HA, HM, HF, hlen, HJ, HD, HRA, HV, HI, HB⟩ := hrel
    clear J1 B1 A1 D1
    rename World => wr
    have HMS := Lib.hid (restJ_jr HJ.out)
    have sA := HRA.out.lt
    have sD := HD.out.lt
    have hbb : b < wr.heap.size := HJ.out.lt
    obtain ⟨T, r1, lgv, unv, rs, hv, hl1, htail⟩ : ∃ (T : VT) (r1 : List UInt8) (lgv unv : Bool) (rs : List VT), P t T r1 lgv unv ∧ r1.length < t.length ∧ ((rest = [T] ∧ rs = [] ∧ EndP 93 ok r1 r ∧ lg3 = lgv ∧ un3 = unv) ∨ ∃ (t2 : List UInt8) (lg4 un4 : Bool), rest = T :: rs ∧ jskip r1 = 44 :: t2 ∧ JAE ok P t2 rs r lg4 un4 ∧ lg3 = (lgv || lg4) ∧ un3 = (unv || un4)) := by
      have h9 := HA.out
      cases h9 with
      | last hv hl h => exact ⟨_, _, _, _, _, hv, Nat.lt_of_lt_of_le hl (jskip_len _), Or.inl ⟨rfl, rfl, h, rfl, rfl⟩⟩
      | more hv hl h ha => exact ⟨_, _, _, _, _, hv, Nat.lt_of_lt_of_le hl (jskip_len _), Or.inr ⟨_, _, _, rfl, h, ha, rfl, rfl⟩⟩
    have HWR : Hid (Below w0.heap.size w0 wr) := Lib.hid (by
      have h1 := HB.out
      have h2 := HW.out
      exact ⟨h1.os.trans h2.os, h1.tape.trans h2.tape, h1.output.trans h2.output, Nat.le_trans h2.size h1.size, fun k hk => (h1.block k (Nat.lt_of_lt_of_le hk h2.size) (by omega)).trans (h2.block k hk)⟩)
    have KV := Lib.hid (HIH.out t T r1 lgv unv (by omega) hv lg2 un2 wr HWR.out HJ.out)
    have hN : ts.length ≤ 900000000000 := by omega
    clear hv HIH
    obtain ⟨N, hNN⟩ : ∃ N, ts.length = N := ⟨_, rfl⟩
    have HNN := Lib.hid hNN
    have hT0 : t.length ≤ t0.length := by omega
    rw [hNN] at HD HV HI hN hlen
    clear hNN
    have hr1l : r1.length ≤ 900000000000 := by omega
    have hjr1 := jskip_len r1
    obtain ⟨N1, hN1⟩ : ∃ N1, N + 1 = N1 := ⟨_, rfl⟩
    have HN1 := Lib.hid hN1
    clear hN1
    rcases htail with ⟨hrest, hrs, hend, hlg, hun⟩ | ⟨t2, lg4, un4, hrest, hend, hja, hlg, hun⟩
    · have KC : Hid (∀ W, Jr W b (str r1) (lg2 || lgv) (un2 || unv) → Calls Tryz.prog 37 #[.pointer (some ⟨b, 0, none⟩), .string ⟨#[44]⟩] W fun e w' => e = .returned (.bool false) ∧ Jr w' b (str (jskip r1)) (lg2 || lgv) (un2 || unv) ∧ But W.heap.size b W w') := Lib.hid (fun W hW => sgn_no r1 _ rfl ⟨#[44]⟩ (by omega) b _ _ W hW (hend.no (by decide)))
      have KD : Hid (∀ W, Jr W b (str (jskip r1)) (lg2 || lgv) (un2 || unv) → Calls Tryz.prog 37 #[.pointer (some ⟨b, 0, none⟩), .string ⟨#[93]⟩] W fun e w' => e = .returned (.bool ok) ∧ Jr w' b (str r) (lg2 || lgv) (un2 || unv) ∧ But W.heap.size b W w') := Lib.hid (fun W hW => hend.sign (by omega) b _ _ W hW)
      have HFL : Hid ((lg2 || lgv) = (lg || lg1) ∧ (un2 || unv) = (un || un1)) := Lib.hid (by rw [← hlg, ← hun]; exact HF.out)
      have HKS : Hid (ts.map er ++ [T] = ks) := Lib.hid (by rw [← hrest]; exact HM.out)
      clear hend hlg hun hrest hrs
      go_wp2_with (first
        | (go_at_call 17; ((with_reducible refine (KV.out).mono ?_); rintro e w2 ⟨o, kids, rfl, hIn, hOff, hEr, hJ2, hB2⟩; have HIn := Lib.hid hIn; have HOff := Lib.hid hOff; have HEr := Lib.hid hEr; have J2 := Lib.hid hJ2; have HB2 := Lib.hid hB2; have D2 := Lib.hid (HD.out.butJ hB2 (by omega)); have A2 := Lib.hid (HRA.out.butJ hB2 (by omega)); have HV2 : Hid (Vr w2 (w.heap.size + 2) (.slice la N lc) ts) := Lib.hid (HV.out.butV hB2 (by omega)); have s2 := hB2.size; obtain ⟨d0, d1, d2, d3, d4, d5, d6, d7, d8, d9⟩ := D2.out.parts; have sD2 := D2.out.lt; have NB : Hid (some b ≠ (Value.slice la N lc).ownBlock) := Lib.hid (Vr.away HV2.out (by omega)); have ND : Hid (some (w.heap.size + 1) ≠ (Value.slice la N lc).ownBlock) := Lib.hid (Vr.away HV2.out (by omega)); have NA : Hid (some w.heap.size ≠ (Value.slice la N lc).ownBlock) := Lib.hid (Vr.away HV2.out (by omega)); clear hIn hOff hEr hJ2 hB2))
        | (at_builtin; refine wpList_append_val _ rfl (.tmp 20) (.tmp 22) rfl (w.heap.size + 2) (.slice la N lc) ts rfl (World.ownsRow.alloc (World.ownsRow.alloc HV2.out _) _) _ 1 (VT.mk o kids) rfl (LitV.of (hnewV (by simp)) rfl) N1 (by have := HNN.out; have := HN1.out; omega) (by have := HN1.out; omega) (by simp; omega) ?_; intro q cap w4 V4 G4 at4; have HV4 := Lib.hid V4; have HG4 := Lib.hid G4; have HAT := Lib.hid at4; have J4 := Lib.hid (((J2.out.alloc (.cells #[.int .i64 o.kind, .bool o.g, .int .u64 (lb 0 o.x), .int .u64 (lb 1 o.x), .int .u64 (lb 2 o.x), .int .u64 (lb 3 o.x), .int .u64 o.bits, .string o.text, .slice o.la kids.length o.lcap, .slice o.ka o.keys.length o.kcap] 32)).alloc (.cells #[.int .i64 o.kind, .bool o.g, .int .u64 (lb 0 o.x), .int .u64 (lb 1 o.x), .int .u64 (lb 2 o.x), .int .u64 (lb 3 o.x), .int .u64 o.bits, .string o.text, .slice o.la kids.length o.lcap, .slice o.ka o.keys.length o.kcap] 32)).grownJ G4 NB.out); have D4 := Lib.hid (Row10.grown ((D2.out.alloc (.cells #[.int .i64 o.kind, .bool o.g, .int .u64 (lb 0 o.x), .int .u64 (lb 1 o.x), .int .u64 (lb 2 o.x), .int .u64 (lb 3 o.x), .int .u64 o.bits, .string o.text, .slice o.la kids.length o.lcap, .slice o.ka o.keys.length o.kcap] 32)).alloc (.cells #[.int .i64 o.kind, .bool o.g, .int .u64 (lb 0 o.x), .int .u64 (lb 1 o.x), .int .u64 (lb 2 o.x), .int .u64 (lb 3 o.x), .int .u64 o.bits, .string o.text, .slice o.la kids.length o.lcap, .slice o.ka o.keys.length o.kcap] 32)) G4 ND.out); have A4 := Lib.hid (Row10.grown ((A2.out.alloc (.cells #[.int .i64 o.kind, .bool o.g, .int .u64 (lb 0 o.x), .int .u64 (lb 1 o.x), .int .u64 (lb 2 o.x), .int .u64 (lb 3 o.x), .int .u64 o.bits, .string o.text, .slice o.la kids.length o.lcap, .slice o.ka o.keys.length o.kcap] 32)).alloc (.cells #[.int .i64 o.kind, .bool o.g, .int .u64 (lb 0 o.x), .int .u64 (lb 1 o.x), .int .u64 (lb 2 o.x), .int .u64 (lb 3 o.x), .int .u64 o.bits, .string o.text, .slice o.la kids.length o.lcap, .slice o.ka o.keys.length o.kcap] 32)) G4 NA.out); have rl4 := D4.out.lt; have rf4 := D4.out.free; obtain ⟨c0, c1, c2, c3, c4, c5, c6, c7, c8, c9⟩ := D4.out.parts; have J5 : Hid (Jr (w4.setCell ⟨w.heap.size + 1, 8, none⟩ (.slice (some ⟨q, 0, none⟩) N1 cap)) b (str r1) (lg2 || lgv) (un2 || unv)) := Lib.hid (J4.out.set (by omega) _ _); have s4 : w2.heap.size + 2 ≤ w4.heap.size := (by have h9 := G4.size; simp at h9; omega); clear V4 G4 at4)
        | (go_at_call 37; ((with_reducible refine (KC.out _ J5.out).mono ?_); rintro e w6 ⟨rfl, hj6, hb6⟩; have J6 := Lib.hid hj6; have HB6 := Lib.hid hb6; clear hj6 hb6)))
      have BS5 : ButS (SX w (.slice la N lc)) w2 (w4.setCell ⟨w.heap.size + 1, 8, none⟩ (.slice (some ⟨q, 0, none⟩) N1 cap)) := ((ButS.below (bal (bal (Below.refl _ w2) (.cells #[.int .i64 o.kind, .bool o.g, .int .u64 (lb 0 o.x), .int .u64 (lb 1 o.x), .int .u64 (lb 2 o.x), .int .u64 (lb 3 o.x), .int .u64 o.bits, .string o.text, .slice o.la kids.length o.lcap, .slice o.ka o.keys.length o.kcap] 32)) (.cells #[.int .i64 o.kind, .bool o.g, .int .u64 (lb 0 o.x), .int .u64 (lb 1 o.x), .int .u64 (lb 2 o.x), .int .u64 (lb 3 o.x), .int .u64 o.bits, .string o.text, .slice o.la kids.length o.lcap, .slice o.ka o.keys.length o.kcap] 32))).trans (ButS.grown HG4.out (fun k hk => Or.inr hk.symm))).trans (ButS.set _ (Or.inl (by omega)) _ _)
      have BSr : ButS (SX w (.slice la N lc)) wr w2 := ButS.but HB2.out (Or.inl (by omega))
      have OFN : (VT.mk o kids).Off (SX w (.slice la N lc)) := HOff.out.mono (fun k hk => by
        rcases hk with hk | hk
        · show k < wr.heap.size
          omega
        · exact (World.ownsRow.lt HV.out k hk).2)
      have IN3 : ∀ u ∈ ts ++ [VT.mk o kids], u.In w2 ∧ u.Off (SX w (.slice la N lc)) := fun u hu => by
        rcases List.mem_append.1 hu with hu | hu
        · obtain ⟨h1, h2⟩ := HI.out u hu
          exact ⟨BSr.keep h1 h2, h2⟩
        · rw [List.mem_singleton.1 hu]
          exact ⟨HIn.out, OFN⟩
      have IN5 : ∀ u ∈ ts ++ [VT.mk o kids], u.In (w4.setCell ⟨w.heap.size + 1, 8, none⟩ (.slice (some ⟨q, 0, none⟩) N1 cap)) ∧ u.Off (SX w (.slice (some ⟨q, 0, none⟩) N1 cap)) := fun u hu => by
        obtain ⟨h1, h2⟩ := IN3 u hu
        refine ⟨BS5.keep h1 h2, ?_⟩
        have h3 := (h1.keep (bal (bal (Below.refl _ w2) (.cells #[.int .i64 o.kind, .bool o.g, .int .u64 (lb 0 o.x), .int .u64 (lb 1 o.x), .int .u64 (lb 2 o.x), .int .u64 (lb 3 o.x), .int .u64 o.bits, .string o.text, .slice o.la kids.length o.lcap, .slice o.ka o.keys.length o.kcap] 32)) (.cells #[.int .i64 o.kind, .bool o.g, .int .u64 (lb 0 o.x), .int .u64 (lb 1 o.x), .int .u64 (lb 2 o.x), .int .u64 (lb 3 o.x), .int .u64 o.bits, .string o.text, .slice o.la kids.length o.lcap, .slice o.ka o.keys.length o.kcap] 32))).old
        refine (h2.both h3).mono (fun k hk => ?_)
        rcases hk with hk | hk
        · exact Or.inl (Or.inl hk)
        · have hq : q = k := Option.some.inj hk
          rcases HAT.out with h4 | h4
          · exact Or.inl (Or.inr (by rw [← hq]; exact h4))
          · exact Or.inr (by rw [← hq, h4]; exact Nat.le_refl _)
      have HI5 := Lib.hid IN5
      have B5 : Hid (But w.heap.size b w (w4.setCell ⟨w.heap.size + 1, 8, none⟩ (.slice (some ⟨q, 0, none⟩) N1 cap))) := Lib.hid ((HB.out.trans (HB2.out.mono (HB.out.size))).trans ⟨by show w4.os = w2.os; exact HG4.out.os, by show w4.tape = w2.tape; exact HG4.out.tape, by show w4.output = w2.output; exact HG4.out.output, BS5.size, fun k hk hkb => by
        have h1 := HG4.out.block k (by simp; omega) (fun e => by
          have := (World.ownsRow.lt HV2.out k e.symm).1
          omega)
        rw [Below.heap_setCell _ _ _ _ (by show k ≠ w.heap.size + 1; omega), h1]
        exact (bal (bal (Below.refl _ w2) (.cells #[.int .i64 o.kind, .bool o.g, .int .u64 (lb 0 o.x), .int .u64 (lb 1 o.x), .int .u64 (lb 2 o.x), .int .u64 (lb 3 o.x), .int .u64 o.bits, .string o.text, .slice o.la kids.length o.lcap, .slice o.ka o.keys.length o.kcap] 32)) (.cells #[.int .i64 o.kind, .bool o.g, .int .u64 (lb 0 o.x), .int .u64 (lb 1 o.x), .int .u64 (lb 2 o.x), .int .u64 (lb 3 o.x), .int .u64 o.bits, .string o.text, .slice o.la kids.length o.lcap, .slice o.ka o.keys.length o.kcap] 32)).block k (by omega)⟩)
      have D5 : Hid (Row10 (w4.setCell ⟨w.heap.size + 1, 8, none⟩ (.slice (some ⟨q, 0, none⟩) N1 cap)) (w.heap.size + 1) (.int .i64 7) (.bool false) (.int .u64 0) (.int .u64 0) (.int .u64 0) (.int .u64 0) (.int .u64 0) (.string ⟨#[]⟩) (.slice (some ⟨q, 0, none⟩) N1 cap) (.slice none 0 0)) := Lib.hid (D4.out.set8 _)
      have A5 : Hid (Row10 (w4.setCell ⟨w.heap.size + 1, 8, none⟩ (.slice (some ⟨q, 0, none⟩) N1 cap)) w.heap.size (.int .i64 0) (.bool false) (.int .u64 0) (.int .u64 0) (.int .u64 0) (.int .u64 0) (.int .u64 0) (.string ⟨#[]⟩) (.slice none 0 0) (.slice none 0 0)) := Lib.hid (A4.out.set (by omega) _)
      have HV5 : Hid (Vr (w4.setCell ⟨w.heap.size + 1, 8, none⟩ (.slice (some ⟨q, 0, none⟩) N1 cap)) (w.heap.size + 2) (.slice (some ⟨q, 0, none⟩) N1 cap) (ts ++ [VT.mk o kids])) := Lib.hid (HV4.out.setV (by omega) _)
      have D6 := Lib.hid (D5.out.butJ HB6.out (by omega))
      have A6 := Lib.hid (A5.out.butJ HB6.out (by omega))
      have s6 : w4.heap.size ≤ w6.heap.size := (by have h9 := HB6.out.size; simpa [World.setCell] using h9)
      have lA6 := A6.out.lt
      have lD6 := D6.out.lt
      obtain ⟨a0, a1, a2, a3, a4, a5, a6, a7, a8, a9⟩ := A6.out.parts
      have af := A6.out.free
      obtain ⟨e0, e1, e2, e3, e4, e5, e6, e7, e8, e9⟩ := D6.out.parts
      first | (go_region_held3 (fun w' => w'.cell? ⟨w.heap.size + 1, 0, none⟩ = some (.int .i64 7) ∧ w'.cell? ⟨w.heap.size + 1, 1, none⟩ = some (.bool false) ∧ w'.cell? ⟨w.heap.size + 1, 2, none⟩ = some (.int .u64 0) ∧ w'.cell? ⟨w.heap.size + 1, 3, none⟩ = some (.int .u64 0) ∧ w'.cell? ⟨w.heap.size + 1, 4, none⟩ = some (.int .u64 0) ∧ w'.cell? ⟨w.heap.size + 1, 5, none⟩ = some (.int .u64 0) ∧ w'.cell? ⟨w.heap.size + 1, 6, none⟩ = some (.int .u64 0) ∧ w'.cell? ⟨w.heap.size + 1, 7, none⟩ = some (.string ⟨#[]⟩) ∧ w'.cell? ⟨w.heap.size + 1, 8, none⟩ = some (.slice (some ⟨q, 0, none⟩) N1 cap) ∧ w'.cell? ⟨w.heap.size + 1, 9, none⟩ = some (.slice none 0 0))
          ((refine Row10.parts ?_; (repeat (first | (with_reducible exact D7.out) | (with_reducible exact D6.out) | (with_reducible refine Row10.drew ?_) | (with_reducible refine Row10.set ?_ (by omega) _))); done))
          (first
            | (go_at_call 37; ((first | (with_reducible refine (KD.out _ J6.out).mono ?_) | (with_reducible refine (KD.out _ (Jr.drewR J6.out)).mono ?_) | (with_reducible refine (KD.out _ (Jr.drewR (Jr.drewR J6.out))).mono ?_)); rintro e w7 ⟨rfl, hj7, hb7⟩; have J7 := Lib.hid hj7; have HB7 : Hid (But w6.heap.size b w6 w7) := Lib.hid ⟨hb7.os, hb7.tape, hb7.output, hb7.size, hb7.block⟩; have D7 := Lib.hid (D6.out.butJ HB7.out (by omega)); have A7 := Lib.hid (A6.out.butJ HB7.out (by omega)); have lA7 := A7.out.lt; obtain ⟨a0, a1, a2, a3, a4, a5, a6, a7, a8, a9⟩ := A7.out.parts; have af7 := A7.out.free; clear hj7 hb7))
            | fail)) | fail
      all_goals
        go_wp2
        obtain ⟨z0, z1, z2, z3, z4, z5, z6, z7, z8, z9⟩ := (A7.out.set10 (.int .i64 7) (.bool false) (.int .u64 0) (.int .u64 0) (.int .u64 0) (.int .u64 0) (.int .u64 0) (.string ⟨#[]⟩) (.slice (some ⟨q, 0, none⟩) N1 cap) (.slice none 0 0)).parts
        refine bodyPost_ret (v := .tuple #[V10 7 false 0 0 0 0 0 ⟨#[]⟩ (some ⟨q, 0, none⟩) N1 cap none 0 0, .bool ok]) (by simp [results, Tryz.results39, go_sem, z0, z1, z2, z3, z4, z5, z6, z7, z8, z9]) rfl ?_
        have hlen9 : (ts ++ [VT.mk o kids]).length = N1 := by rw [List.length_append, HNN.out]; exact HN1.out
        obtain ⟨l1, l2, l3, l4, l5⟩ := Vr.lies HV5.out hlen9
        have SXb : SX w (.slice (some ⟨q, 0, none⟩) N1 cap) b := Or.inl (by omega)
        have BSY : ButS (fun k => k < w.heap.size + 2) (w4.setCell ⟨w.heap.size + 1, 8, none⟩ (.slice (some ⟨q, 0, none⟩) N1 cap)) _ := ((ButS.but HB6.out (by show b < _; omega)).trans (ButS.but HB7.out (by show b < _; omega))).trans (ButS.set10 (S := fun k => k < w.heap.size + 2) w7 (c := w.heap.size) (by show _ < _; omega) (.int .i64 7) (.bool false) (.int .u64 0) (.int .u64 0) (.int .u64 0) (.int .u64 0) (.int .u64 0) (.string ⟨#[]⟩) (.slice (some ⟨q, 0, none⟩) N1 cap) (.slice none 0 0))
        have INF := fun u (hu : u ∈ ts ++ [VT.mk o kids]) => BSY.keep (HI5.out u hu).1 ((HI5.out u hu).2.mono (fun k hk => Or.inl hk))
        refine ⟨⟨7, false, 0, 0, ⟨#[]⟩, some ⟨q, 0, none⟩, cap, none, 0, []⟩, ts ++ [VT.mk o kids], by rw [hlen9]; simp only [lb_zero]; rfl, ?_, ?_, ?_, ?_, ?_⟩
        · refine .mk _ _ ⟨⟨by show _ ≤ (7 : Int); omega, by show (7 : Int) ≤ _; omega⟩, by show 0 < _; omega, ⟨Int.le_refl _, by show (0 : Int) ≤ _; omega⟩, Nat.zero_le _, ⟨by rw [hlen9]; exact l1, l2⟩, ⟨Nat.le_refl _, Nat.zero_le _⟩, fun s h => by cases h⟩ ⟨0, 0, fun h => absurd h (by simp), fun i s h => by simp at h⟩ (kids_butS l5 BSY (by show ¬ _ < _; omega)) (fun i u hi => INF u (List.mem_of_getElem? hi))
        · refine .mk _ _ (fun _ ad had => ?_) (fun h => absurd h (by simp)) (fun u hu => (HI5.out u hu).2.mono (fun k hk => Or.inl (by have hk' : k < w.heap.size := hk; omega)))
          have : ad = ⟨q, 0, none⟩ := (Option.some.inj had).symm
          subst this
          show ¬ q < w.heap.size
          omega
        · rw [er_mk, List.map_append, List.map_singleton, HEr.out, HKS.out]
          rfl
        · rw [← HFL.out.1, ← HFL.out.2]
          exact J7.out.set10 (by omega) _ _ _ _ _ _ _ _ _ _
        · exact ((B5.out.trans (HB6.out.mono (by simp [World.setCell]; omega))).trans (HB7.out.mono (by omega))).set10 (Nat.le_refl _) _ _ _ _ _ _ _ _ _ _
    · have KC : Hid (∀ W, Jr W b (str r1) (lg2 || lgv) (un2 || unv) → Calls Tryz.prog 37 #[.pointer (some ⟨b, 0, none⟩), .string ⟨#[44]⟩] W fun e w' => e = .returned (.bool true) ∧ Jr w' b (str t2) (lg2 || lgv) (un2 || unv) ∧ But W.heap.size b W w') := Lib.hid (fun W hW => sgn_yes r1 _ hend ⟨#[44]⟩ (by omega) b _ _ W hW t2 rfl)
      have HFL : Hid (((lg2 || lgv) || lg4) = (lg || lg1) ∧ ((un2 || unv) || un4) = (un || un1)) := Lib.hid (by have h9 := HF.out; rw [hlg, hun] at h9; rw [Bool.or_assoc, Bool.or_assoc]; exact h9)
      have HKS : Hid (ts.map er ++ (T :: rs) = ks) := Lib.hid (by rw [← hrest]; exact HM.out)
      have HJ9 := Lib.hid hja
      have ht2 : t2.length + 1 ≤ r1.length := by have := hjr1; rw [hend, List.length_cons] at this; omega
      clear hend hlg hun hrest hja
      go_wp2_with (first
        | (go_at_call 17; ((with_reducible refine (KV.out).mono ?_); rintro e w2 ⟨o, kids, rfl, hIn, hOff, hEr, hJ2, hB2⟩; have HIn := Lib.hid hIn; have HOff := Lib.hid hOff; have HEr := Lib.hid hEr; have J2 := Lib.hid hJ2; have HB2 := Lib.hid hB2; have D2 := Lib.hid (HD.out.butJ hB2 (by omega)); have A2 := Lib.hid (HRA.out.butJ hB2 (by omega)); have HV2 : Hid (Vr w2 (w.heap.size + 2) (.slice la N lc) ts) := Lib.hid (HV.out.butV hB2 (by omega)); have s2 := hB2.size; obtain ⟨d0, d1, d2, d3, d4, d5, d6, d7, d8, d9⟩ := D2.out.parts; have sD2 := D2.out.lt; have NB : Hid (some b ≠ (Value.slice la N lc).ownBlock) := Lib.hid (Vr.away HV2.out (by omega)); have ND : Hid (some (w.heap.size + 1) ≠ (Value.slice la N lc).ownBlock) := Lib.hid (Vr.away HV2.out (by omega)); have NA : Hid (some w.heap.size ≠ (Value.slice la N lc).ownBlock) := Lib.hid (Vr.away HV2.out (by omega)); clear hIn hOff hEr hJ2 hB2))
        | (at_builtin; refine wpList_append_val _ rfl (.tmp 20) (.tmp 22) rfl (w.heap.size + 2) (.slice la N lc) ts rfl (World.ownsRow.alloc (World.ownsRow.alloc HV2.out _) _) _ 1 (VT.mk o kids) rfl (LitV.of (hnewV (by simp)) rfl) N1 (by have := HNN.out; have := HN1.out; omega) (by have := HN1.out; omega) (by simp; omega) ?_; intro q cap w4 V4 G4 at4; have HV4 := Lib.hid V4; have HG4 := Lib.hid G4; have HAT := Lib.hid at4; have J4 := Lib.hid (((J2.out.alloc (.cells #[.int .i64 o.kind, .bool o.g, .int .u64 (lb 0 o.x), .int .u64 (lb 1 o.x), .int .u64 (lb 2 o.x), .int .u64 (lb 3 o.x), .int .u64 o.bits, .string o.text, .slice o.la kids.length o.lcap, .slice o.ka o.keys.length o.kcap] 32)).alloc (.cells #[.int .i64 o.kind, .bool o.g, .int .u64 (lb 0 o.x), .int .u64 (lb 1 o.x), .int .u64 (lb 2 o.x), .int .u64 (lb 3 o.x), .int .u64 o.bits, .string o.text, .slice o.la kids.length o.lcap, .slice o.ka o.keys.length o.kcap] 32)).grownJ G4 NB.out); have D4 := Lib.hid (Row10.grown ((D2.out.alloc (.cells #[.int .i64 o.kind, .bool o.g, .int .u64 (lb 0 o.x), .int .u64 (lb 1 o.x), .int .u64 (lb 2 o.x), .int .u64 (lb 3 o.x), .int .u64 o.bits, .string o.text, .slice o.la kids.length o.lcap, .slice o.ka o.keys.length o.kcap] 32)).alloc (.cells #[.int .i64 o.kind, .bool o.g, .int .u64 (lb 0 o.x), .int .u64 (lb 1 o.x), .int .u64 (lb 2 o.x), .int .u64 (lb 3 o.x), .int .u64 o.bits, .string o.text, .slice o.la kids.length o.lcap, .slice o.ka o.keys.length o.kcap] 32)) G4 ND.out); have A4 := Lib.hid (Row10.grown ((A2.out.alloc (.cells #[.int .i64 o.kind, .bool o.g, .int .u64 (lb 0 o.x), .int .u64 (lb 1 o.x), .int .u64 (lb 2 o.x), .int .u64 (lb 3 o.x), .int .u64 o.bits, .string o.text, .slice o.la kids.length o.lcap, .slice o.ka o.keys.length o.kcap] 32)).alloc (.cells #[.int .i64 o.kind, .bool o.g, .int .u64 (lb 0 o.x), .int .u64 (lb 1 o.x), .int .u64 (lb 2 o.x), .int .u64 (lb 3 o.x), .int .u64 o.bits, .string o.text, .slice o.la kids.length o.lcap, .slice o.ka o.keys.length o.kcap] 32)) G4 NA.out); have rl4 := D4.out.lt; have rf4 := D4.out.free; obtain ⟨c0, c1, c2, c3, c4, c5, c6, c7, c8, c9⟩ := D4.out.parts; have J5 : Hid (Jr (w4.setCell ⟨w.heap.size + 1, 8, none⟩ (.slice (some ⟨q, 0, none⟩) N1 cap)) b (str r1) (lg2 || lgv) (un2 || unv)) := Lib.hid (J4.out.set (by omega) _ _); have s4 : w2.heap.size + 2 ≤ w4.heap.size := (by have h9 := G4.size; simp at h9; omega); clear V4 G4 at4)
        | (go_at_call 37; ((with_reducible refine (KC.out _ J5.out).mono ?_); rintro e w6 ⟨rfl, hj6, hb6⟩; have J6 := Lib.hid hj6; have HB6 := Lib.hid hb6; clear hj6 hb6)))
      have BS5 : ButS (SX w (.slice la N lc)) w2 (w4.setCell ⟨w.heap.size + 1, 8, none⟩ (.slice (some ⟨q, 0, none⟩) N1 cap)) := ((ButS.below (bal (bal (Below.refl _ w2) (.cells #[.int .i64 o.kind, .bool o.g, .int .u64 (lb 0 o.x), .int .u64 (lb 1 o.x), .int .u64 (lb 2 o.x), .int .u64 (lb 3 o.x), .int .u64 o.bits, .string o.text, .slice o.la kids.length o.lcap, .slice o.ka o.keys.length o.kcap] 32)) (.cells #[.int .i64 o.kind, .bool o.g, .int .u64 (lb 0 o.x), .int .u64 (lb 1 o.x), .int .u64 (lb 2 o.x), .int .u64 (lb 3 o.x), .int .u64 o.bits, .string o.text, .slice o.la kids.length o.lcap, .slice o.ka o.keys.length o.kcap] 32))).trans (ButS.grown HG4.out (fun k hk => Or.inr hk.symm))).trans (ButS.set _ (Or.inl (by omega)) _ _)
      have BSr : ButS (SX w (.slice la N lc)) wr w2 := ButS.but HB2.out (Or.inl (by omega))
      have OFN : (VT.mk o kids).Off (SX w (.slice la N lc)) := HOff.out.mono (fun k hk => by
        rcases hk with hk | hk
        · show k < wr.heap.size
          omega
        · exact (World.ownsRow.lt HV.out k hk).2)
      have IN3 : ∀ u ∈ ts ++ [VT.mk o kids], u.In w2 ∧ u.Off (SX w (.slice la N lc)) := fun u hu => by
        rcases List.mem_append.1 hu with hu | hu
        · obtain ⟨h1, h2⟩ := HI.out u hu
          exact ⟨BSr.keep h1 h2, h2⟩
        · rw [List.mem_singleton.1 hu]
          exact ⟨HIn.out, OFN⟩
      have IN5 : ∀ u ∈ ts ++ [VT.mk o kids], u.In (w4.setCell ⟨w.heap.size + 1, 8, none⟩ (.slice (some ⟨q, 0, none⟩) N1 cap)) ∧ u.Off (SX w (.slice (some ⟨q, 0, none⟩) N1 cap)) := fun u hu => by
        obtain ⟨h1, h2⟩ := IN3 u hu
        refine ⟨BS5.keep h1 h2, ?_⟩
        have h3 := (h1.keep (bal (bal (Below.refl _ w2) (.cells #[.int .i64 o.kind, .bool o.g, .int .u64 (lb 0 o.x), .int .u64 (lb 1 o.x), .int .u64 (lb 2 o.x), .int .u64 (lb 3 o.x), .int .u64 o.bits, .string o.text, .slice o.la kids.length o.lcap, .slice o.ka o.keys.length o.kcap] 32)) (.cells #[.int .i64 o.kind, .bool o.g, .int .u64 (lb 0 o.x), .int .u64 (lb 1 o.x), .int .u64 (lb 2 o.x), .int .u64 (lb 3 o.x), .int .u64 o.bits, .string o.text, .slice o.la kids.length o.lcap, .slice o.ka o.keys.length o.kcap] 32))).old
        refine (h2.both h3).mono (fun k hk => ?_)
        rcases hk with hk | hk
        · exact Or.inl (Or.inl hk)
        · have hq : q = k := Option.some.inj hk
          rcases HAT.out with h4 | h4
          · exact Or.inl (Or.inr (by rw [← hq]; exact h4))
          · exact Or.inr (by rw [← hq, h4]; exact Nat.le_refl _)
      have HI5 := Lib.hid IN5
      have B5 : Hid (But w.heap.size b w (w4.setCell ⟨w.heap.size + 1, 8, none⟩ (.slice (some ⟨q, 0, none⟩) N1 cap))) := Lib.hid ((HB.out.trans (HB2.out.mono (HB.out.size))).trans ⟨by show w4.os = w2.os; exact HG4.out.os, by show w4.tape = w2.tape; exact HG4.out.tape, by show w4.output = w2.output; exact HG4.out.output, BS5.size, fun k hk hkb => by
        have h1 := HG4.out.block k (by simp; omega) (fun e => by
          have := (World.ownsRow.lt HV2.out k e.symm).1
          omega)
        rw [Below.heap_setCell _ _ _ _ (by show k ≠ w.heap.size + 1; omega), h1]
        exact (bal (bal (Below.refl _ w2) (.cells #[.int .i64 o.kind, .bool o.g, .int .u64 (lb 0 o.x), .int .u64 (lb 1 o.x), .int .u64 (lb 2 o.x), .int .u64 (lb 3 o.x), .int .u64 o.bits, .string o.text, .slice o.la kids.length o.lcap, .slice o.ka o.keys.length o.kcap] 32)) (.cells #[.int .i64 o.kind, .bool o.g, .int .u64 (lb 0 o.x), .int .u64 (lb 1 o.x), .int .u64 (lb 2 o.x), .int .u64 (lb 3 o.x), .int .u64 o.bits, .string o.text, .slice o.la kids.length o.lcap, .slice o.ka o.keys.length o.kcap] 32)).block k (by omega)⟩)
      have D5 : Hid (Row10 (w4.setCell ⟨w.heap.size + 1, 8, none⟩ (.slice (some ⟨q, 0, none⟩) N1 cap)) (w.heap.size + 1) (.int .i64 7) (.bool false) (.int .u64 0) (.int .u64 0) (.int .u64 0) (.int .u64 0) (.int .u64 0) (.string ⟨#[]⟩) (.slice (some ⟨q, 0, none⟩) N1 cap) (.slice none 0 0)) := Lib.hid (D4.out.set8 _)
      have A5 : Hid (Row10 (w4.setCell ⟨w.heap.size + 1, 8, none⟩ (.slice (some ⟨q, 0, none⟩) N1 cap)) w.heap.size (.int .i64 0) (.bool false) (.int .u64 0) (.int .u64 0) (.int .u64 0) (.int .u64 0) (.int .u64 0) (.string ⟨#[]⟩) (.slice none 0 0) (.slice none 0 0)) := Lib.hid (A4.out.set (by omega) _)
      have HV5 : Hid (Vr (w4.setCell ⟨w.heap.size + 1, 8, none⟩ (.slice (some ⟨q, 0, none⟩) N1 cap)) (w.heap.size + 2) (.slice (some ⟨q, 0, none⟩) N1 cap) (ts ++ [VT.mk o kids])) := Lib.hid (HV4.out.setV (by omega) _)
      have SXb : SX w (.slice (some ⟨q, 0, none⟩) N1 cap) b := Or.inl (by omega)
      have hlen9 : (ts ++ [VT.mk o kids]).length = N1 := by rw [List.length_append, HNN.out]; exact HN1.out
      have sz6 : w4.heap.size ≤ w6.heap.size := by have h9 := HB6.out.size; simpa [World.setCell] using h9
      have INF : ∀ u ∈ ts ++ [VT.mk o kids], u.In w6 ∧ u.Off (SX w (.slice (some ⟨q, 0, none⟩) N1 cap)) := fun u hu => ⟨(ButS.but HB6.out SXb).keep (HI5.out u hu).1 (HI5.out u hu).2, (HI5.out u hu).2⟩
      have HINF := Lib.hid INF
      have HVF := Lib.hid (HV5.out.butV HB6.out (by omega))
      have DF := Lib.hid (D5.out.butJ HB6.out (by omega))
      have AF := Lib.hid (A5.out.butJ HB6.out (by omega))
      have BF := Lib.hid (B5.out.trans (HB6.out.mono (by simp [World.setCell]; omega)))
      have HMF : Hid ((ts ++ [VT.mk o kids]).map er ++ rs = ks) := Lib.hid (by rw [List.map_append, List.map_singleton, HEr.out, List.append_assoc]; exact HKS.out)
      clear INF BS5 BSr OFN IN3 IN5
      go_roundw
      case rel =>
        refine ⟨ts ++ [VT.mk o kids], rs, t2, _, _, lg4, un4, some ⟨q, 0, none⟩, cap, HJ9, HMF, HFL, by rw [hlen9]; have := HN1.out; omega, J6, ?_, AF, ?_, ?_, BF⟩
        · rw [hlen9]; exact DF
        · rw [hlen9]; exact HVF
        · rw [hlen9]; exact HINF
      case measure =>
        have m1 := restJ_jr J6.out
        have m2 := HMS.out
        show restJ _ b < restJ _ b
        rw [m1, m2]
        omega
end Go.Proofs.YtebfggiodhaahaaGreatDoor
end
section
namespace Go.Proofs.YtebfggiodhaahaaGreatDoor
open Go.RowKit Go.Shelf
set_option linter.unusedVariables false

theorem jtx_len : ∀ (f : Nat) (l x T R : List UInt8), jtx f l x = some (T, R) → T.length + R.length ≤ x.length + l.length := by
  intro f
  induction f with
  | zero => intro l x T R h; cases h
  | succ f ih =>
    intro l x T R h
    unfold jtx at h
    split at h
    · cases h
    · split at h
      · have h := Option.some.inj h
        simp only [Prod.mk.injEq] at h
        obtain ⟨rfl, rfl⟩ := h
        rw [List.length_drop]
        omega
      · split at h
        · split at h
          · rename_i p r he
            have h1 := ih _ _ _ _ h
            have h2 := jesd_len he
            rw [List.length_append] at h1
            rw [List.length_drop] at h2
            omega
          · cases h
        · have h1 := ih _ _ _ _ h
          rw [List.length_append, List.length_take, List.length_drop] at h1
          omega
theorem lf_in (w : World) (k : Int) (g : Bool) (x : Nat) (y : Int) (s : ByteArray) (hk : 0 ≤ k ∧ k ≤ 8) (hx : x < 2 ^ 256) (hy : 0 ≤ y ∧ y ≤ 18446744073709551615) (hs : s.size ≤ maxLen) : (lf k g x y s).In w :=
  .mk _ _ ⟨⟨by show _ ≤ k; omega, by show k ≤ _; omega⟩, hx, hy, hs, ⟨Nat.le_refl _, Nat.zero_le _⟩, ⟨Nat.le_refl _, Nat.zero_le _⟩, fun s h => by cases h⟩ ⟨0, 0, fun h => absurd h (by simp), fun i s h => by simp at h⟩ ⟨0, 0, fun h => absurd h (by simp), fun i s h => by simp at h⟩ (fun i t h => by simp at h)
theorem lf_off (S : Nat → Prop) (k : Int) (g : Bool) (x : Nat) (y : Int) (s : ByteArray) : (lf k g x y s).Off S :=
  .mk _ _ (fun h => absurd h (by simp)) (fun h => absurd h (by simp)) (fun t h => by cases h)
theorem er_lf (k : Int) (g : Bool) (x : Nat) (y : Int) (s : ByteArray) : er (lf k g x y s) = lf k g x y s := by
  unfold lf
  rw [er_mk]
  rfl
theorem vq_lf {b : Nat} {k : Int} {g : Bool} {x : Nat} {y : Int} {s : ByteArray} {r : List UInt8} {lg un : Bool} {w w' : World} {e : Ending} (hk : 0 ≤ k ∧ k ≤ 8) (hx : x < 2 ^ 256) (hy : 0 ≤ y ∧ y ≤ 18446744073709551615) (hs : s.size ≤ maxLen)
    (he : e = .returned (.tuple #[V10 k g (lb 0 x) (lb 1 x) (lb 2 x) (lb 3 x) y s none 0 0 none 0 0, .bool true])) (hj : Jr w' b (str r) lg un) (hb : But w.heap.size b w w') : VQ b (lf k g x y s) r lg un w e w' :=
  ⟨⟨k, g, x, y, s, none, 0, none, 0, []⟩, [], he, lf_in w' k g x y s hk hx hy hs, lf_off _ k g x y s, er_lf k g x y s, hj, hb⟩
theorem Jr.inj {W : World} {b : Nat} {s t : ByteArray} {lg un lg2 un2 : Bool} (h : Jr W b s lg un) (h2 : Jr W b t lg2 un2) : s = t ∧ lg = lg2 ∧ un = un2 := by
  have := h.symm.trans h2
  simp only [Option.some.injEq, Obj.cells.injEq, Array.mk.injEq, List.cons.injEq, Value.string.injEq, Value.bool.injEq, and_true] at this
  exact this
theorem numc_ne {c : UInt8} (h : numc c = true) (d : UInt8) (hd : numc d = false) : c ≠ d := fun e => by rw [e, hd] at h; cases h
/-- What comes of the six rules that hand on. -/
theorem vq_of {b : Nat} {T : VT} {r : List UInt8} {lg un : Bool} {w w' W X : World} {e : Ending} {o : Own} {kids : List VT} {ok : Bool} {s : ByteArray} {lg2 un2 : Bool} (he : e = .returned (.tuple #[(VT.mk o kids).val, .bool ok]))
    (hok : ok = true) (hI : (VT.mk o kids).In X) (hO : (VT.mk o kids).Off (fun k => k < W.heap.size)) (hE : er (VT.mk o kids) = T) (hJ : Jr X b (str r) lg un) (hX : Jr X b s lg2 un2) (hw : Jr w' b s lg2 un2) (hb : But w.heap.size b w w') (hlt : w.heap.size < W.heap.size)
    (hS : ButS (fun k => k = w.heap.size) X w') : VQ b T r lg un w e w' := by
  obtain ⟨e1, e2, e3⟩ := hJ.inj hX
  subst hok
  refine ⟨o, kids, he, hS.keep hI (hO.mono (fun k hk => by rw [hk]; exact hlt)), hO.mono (fun k hk => by omega), hE, ?_, hb⟩
  rw [e1, e2, e3]
  exact hw
theorem below_but {w0 w W : World} {b : Nat} (hb0 : w0.heap.size ≤ b) (h1 : Below w0.heap.size w0 w) (h2 : But w.heap.size b w W) : Below w0.heap.size w0 W :=
  ⟨h2.os.trans h1.os, h2.tape.trans h1.tape, h2.output.trans h1.output, Nat.le_trans h1.size h2.size, fun k hk => (h2.block k (Nat.lt_of_lt_of_le hk h1.size) (by omega)).trans (h1.block k hk)⟩
theorem ja_jae : ∀ (ks : List VT) (t r : List UInt8) (lg un : Bool), JA t ks r lg un → JAE true JV t ks r lg un := by
  intro ks
  induction ks with
  | nil => intro t r lg un h; cases h
  | cons T ks ih =>
    intro t r lg un h
    cases h with
    | last hv hl h => exact .last hv hl (Or.inl ⟨rfl, h⟩)
    | more hv hl h ha => exact .more hv hl h (ih _ _ _ _ ha)
theorem jv_any (w0 : World) (b : Nat) (hb0 : w0.heap.size ≤ b) (hT0 : Tb w0) : ∀ (n : Nat) (l : List UInt8) (T : VT) (r : List UInt8) (lg1 un1 : Bool), l.length ≤ n → n ≤ 900000000000 → JV l T r lg1 un1 → VC w0 b l T r lg1 un1 := by
  intro n
  induction n using Nat.strongRecOn with
  | ind n ih =>
    intro l T r lg1 un1 hln hn hv lg un w hw h
    have hl : l.length ≤ 60000000000000 := by omega
    have hjl := jskip_len l
    cases hv with
    | nul hJ =>
      refine (rv_nul l _ hl hJ b lg un w h r rfl (fun P hP => by cases hP)).mono ?_
      rintro e w' ⟨he, hj, hb⟩
      rw [Bool.or_false, Bool.or_false]
      exact vq_lf (by omega) (by decide) (by omega) (Nat.zero_le _) (by rw [he]; simp only [lb_zero]) hj hb
    | fal hJ =>
      refine (rv_fal l _ hl hJ b lg un w h r rfl (fun P hP => by
        rw [List.mem_singleton.1 hP]
        exact pre_no (by decide))).mono ?_
      rintro e w' ⟨he, hj, hb⟩
      rw [Bool.or_false, Bool.or_false]
      exact vq_lf (by omega) (by decide) (by omega) (Nat.zero_le _) (by rw [he]; simp only [lb_zero]) hj hb
    | tru hJ =>
      refine (rv_tru l _ hl hJ b lg un w h r rfl (fun P hP => by
        simp only [List.mem_cons, List.not_mem_nil, or_false] at hP
        rcases hP with rfl | rfl <;> exact pre_no (by decide))).mono ?_
      rintro e w' ⟨he, hj, hb⟩
      rw [Bool.or_false, Bool.or_false]
      exact vq_lf (by omega) (by decide) (by omega) (Nat.zero_le _) (by rw [he]; simp only [lb_zero]) hj hb
    | @txt _ t x _ f hJ hx =>
      rw [hJ, List.length_cons] at hjl
      have hxl := jtx_len f t [] x r hx
      rw [List.length_nil] at hxl
      refine (rv_txt l _ hl hJ b lg un w h t rfl (fun P hP => by
        simp only [List.mem_cons, List.not_mem_nil, or_false] at hP
        rcases hP with rfl | rfl | rfl <;> exact pre_no (by decide)) (str x) r (fun W hW => rtext_ok f t x r (by omega) hx b lg un W hW)).mono ?_
      rintro e w' ⟨he, hj, hb⟩
      rw [Bool.or_false, Bool.or_false]
      exact vq_lf (by omega) (by decide) (by omega) (by rw [str_size]; unfold maxLen; omega) (by rw [he]; simp only [lb_zero]) hj hb
    | @num _ t c k g x y hJ hc hk hxx hy hd =>
      rw [hJ] at hjl
      refine (rv_num l _ hl hJ b lg un w h (fun P hP => by
        simp only [List.mem_cons, List.not_mem_nil, or_false] at hP
        rcases hP with rfl | rfl | rfl | rfl | rfl | rfl <;> exact pre_no (numc_ne hc _ (by decide))) (fun o kids ok W X => ok = true ∧ VT.mk o kids = lf k g x y ⟨#[]⟩ ∧ Jr X b (str ((c :: t).drop (nsz (c :: t)))) lg un) (fun W _ hB hW => ?_)).mono ?_
      · refine (rnum_ok (c :: t) (by omega) k g x y b lg un W hW (tb_on hT0 (below_but hb0 hw hB)) hd).mono ?_
        rintro e w' ⟨he, hj, hb⟩
        exact ⟨⟨k, g, x, y, ⟨#[]⟩, none, 0, none, 0, []⟩, [], true, he, ⟨rfl, rfl, hj⟩, ⟨_, _, _, hj⟩, hb⟩
      · rintro e w' ⟨o, kids, ok, W, X, s, lg2, un2, he, ⟨hok, ho, hj⟩, hB1, hB2, hX, hw', hb, hlt, hS⟩
        rw [Bool.or_false, Bool.or_false]
        refine vq_of he hok ?_ ?_ ?_ hj hX hw' hb hlt hS
        · rw [ho]; exact lf_in X k g x y _ (by omega) hxx hy (Nat.zero_le _)
        · rw [ho]; exact lf_off _ k g x y _
        · rw [ho]; exact er_lf k g x y _
    | @lng _ t c hJ hc hd =>
      rw [hJ] at hjl
      refine (rv_num l _ hl hJ b lg un w h (fun P hP => by
        simp only [List.mem_cons, List.not_mem_nil, or_false] at hP
        rcases hP with rfl | rfl | rfl | rfl | rfl | rfl <;> exact pre_no (numc_ne hc _ (by decide))) (fun o kids ok W X => ok = true ∧ VT.mk o kids = lf 1 false 0 0 ⟨#[]⟩ ∧ Jr X b (str ((c :: t).drop (nsz (c :: t)))) true un) (fun W _ hB hW => ?_)).mono ?_
      · refine (rnum_long (c :: t) (by omega) b lg un W hW (tb_on hT0 (below_but hb0 hw hB)) hd).mono ?_
        rintro e w' ⟨he, hj, hb⟩
        exact ⟨⟨1, false, 0, 0, ⟨#[]⟩, none, 0, none, 0, []⟩, [], true, he, ⟨rfl, rfl, hj⟩, ⟨_, _, _, hj⟩, hb⟩
      · rintro e w' ⟨o, kids, ok, W, X, s, lg2, un2, he, ⟨hok, ho, hj⟩, hB1, hB2, hX, hw', hb, hlt, hS⟩
        rw [Bool.or_true, Bool.or_false]
        refine vq_of he hok ?_ ?_ ?_ hj hX hw' hb hlt hS
        · rw [ho]; exact lf_in X 1 false 0 0 _ (by omega) (by decide) (by omega) (Nat.zero_le _)
        · rw [ho]; exact lf_off _ 1 false 0 0 _
        · rw [ho]; exact er_lf 1 false 0 0 _
    | @unr _ t c hJ hc hd =>
      rw [hJ] at hjl
      refine (rv_num l _ hl hJ b lg un w h (fun P hP => by
        simp only [List.mem_cons, List.not_mem_nil, or_false] at hP
        rcases hP with rfl | rfl | rfl | rfl | rfl | rfl <;> exact pre_no (numc_ne hc _ (by decide))) (fun o kids ok W X => ok = true ∧ VT.mk o kids = lf 1 false 0 0 ⟨#[]⟩ ∧ Jr X b (str ((c :: t).drop (nsz (c :: t)))) lg true) (fun W _ hB hW => ?_)).mono ?_
      · refine (rnum_unrep (c :: t) (by omega) b lg un W hW (tb_on hT0 (below_but hb0 hw hB)) hd).mono ?_
        rintro e w' ⟨he, hj, hb⟩
        exact ⟨⟨1, false, 0, 0, ⟨#[]⟩, none, 0, none, 0, []⟩, [], true, he, ⟨rfl, rfl, hj⟩, ⟨_, _, _, hj⟩, hb⟩
      · rintro e w' ⟨o, kids, ok, W, X, s, lg2, un2, he, ⟨hok, ho, hj⟩, hB1, hB2, hX, hw', hb, hlt, hS⟩
        rw [Bool.or_true, Bool.or_false]
        refine vq_of he hok ?_ ?_ ?_ hj hX hw' hb hlt hS
        · rw [ho]; exact lf_in X 1 false 0 0 _ (by omega) (by decide) (by omega) (Nat.zero_le _)
        · rw [ho]; exact lf_off _ 1 false 0 0 _
        · rw [ho]; exact er_lf 1 false 0 0 _
    | @arr0 _ t _ hJ h2 =>
      rw [hJ, List.length_cons] at hjl
      refine (rv_arr l _ hl hJ b lg un w h t rfl (fun P hP => by
        simp only [List.mem_cons, List.not_mem_nil, or_false] at hP
        rcases hP with rfl | rfl | rfl | rfl <;> exact pre_no (by decide)) (fun o kids ok W X => ok = true ∧ (VT.mk o kids).In X ∧ (VT.mk o kids).Off (fun k => k < W.heap.size) ∧ er (VT.mk o kids) = arrE [] ∧ Jr X b (str r) lg un) (fun W _ hB hW => ?_)).mono ?_
      · refine (rarr_nil t r (by omega) h2 b lg un W hW).mono ?_
        rintro e w' ⟨o, kids, he, hI, hO, hE, hj, hb⟩
        exact ⟨o, kids, true, he, ⟨rfl, hI, hO, hE, hj⟩, ⟨_, _, _, hj⟩, hb⟩
      · rintro e w' ⟨o, kids, ok, W, X, s, lg2, un2, he, ⟨hok, hI, hO, hE, hj⟩, hB1, hB2, hX, hw', hb, hlt, hS⟩
        rw [Bool.or_false, Bool.or_false]
        exact vq_of he hok hI hO hE hj hX hw' hb hlt hS
    | @arr _ t _ ks _ _ hJ h2 ha =>
      rw [hJ, List.length_cons] at hjl
      refine (rv_arr l _ hl hJ b lg un w h t rfl (fun P hP => by
        simp only [List.mem_cons, List.not_mem_nil, or_false] at hP
        rcases hP with rfl | rfl | rfl | rfl <;> exact pre_no (by decide)) (fun o kids ok W X => ok = true ∧ (VT.mk o kids).In X ∧ (VT.mk o kids).Off (fun k => k < W.heap.size) ∧ er (VT.mk o kids) = arrE ks ∧ Jr X b (str r) (lg || lg1) (un || un1)) (fun W _ hB hW => ?_)).mono ?_
      · refine (rarrE true JV w0 b hb0 t r ks lg1 un1 (by omega) h2 (ja_jae ks _ _ _ _ (ja_skip ha)) (fun t' T' r' l' u' hl' hv' => ih t.length (by omega) t' T' r' l' u' hl' (by omega) hv') lg un W (below_but hb0 hw hB) hW).mono ?_
        rintro e w' ⟨o, kids, he, hI, hO, hE, hj, hb⟩
        exact ⟨o, kids, true, he, ⟨rfl, hI, hO, hE, hj⟩, ⟨_, _, _, hj⟩, hb⟩
      · rintro e w' ⟨o, kids, ok, W, X, s, lg2, un2, he, ⟨hok, hI, hO, hE, hj⟩, hB1, hB2, hX, hw', hb, hlt, hS⟩
        exact vq_of he hok hI hO hE hj hX hw' hb hlt hS
end Go.Proofs.YtebfggiodhaahaaGreatDoor
end
section
namespace Go.Proofs.YtebfggiodhaahaaGreatDoor
open Go.RowKit Go.Shelf
set_option linter.unusedVariables false
set_option linter.unusedSimpArgs false

theorem ButS.drewR {S : Nat → Prop} {w w' : World} (h : ButS S w w') : ButS S w w'.drew := ⟨h.size, h.block⟩

set_option maxRecDepth 100000 in
set_option maxHeartbeats 2000000 in
theorem rdoc_ok (l : List UInt8) (b : Nat) (lg un : Bool) (w : World) (h : Jr w b (str l) lg un) (Q : Own → List VT → List UInt8 → Bool → Bool → World → World → Prop) (hend : ∀ o kids r lg2 un2 W X, Q o kids r lg2 un2 W X → jskip r = []) 
    (kt : ∀ W, But w.heap.size b w W → Jr W b (str l) lg un → Calls Tryz.prog 17 #[.pointer (some ⟨b, 0, none⟩)] W fun e w' => ∃ (o : Own) (kids : List VT) (r : List UInt8) (lg2 un2 : Bool), e = .returned (.tuple #[V10 o.kind o.g (lb 0 o.x) (lb 1 o.x) (lb 2 o.x) (lb 3 o.x) o.bits o.text o.la kids.length o.lcap o.ka o.keys.length o.kcap, .bool true]) ∧ Q o kids r lg2 un2 W w' ∧ Jr w' b (str r) lg2 un2 ∧ But W.heap.size b W w') :
    Calls Tryz.prog 11 #[.pointer (some ⟨b, 0, none⟩)] w fun e w' => ∃ (o : Own) (kids : List VT) (r : List UInt8) (lg2 un2 : Bool) (W X : World), e = .returned (.tuple #[V10 o.kind o.g (lb 0 o.x) (lb 1 o.x) (lb 2 o.x) (lb 3 o.x) o.bits o.text o.la kids.length o.lcap o.ka o.keys.length o.kcap, .bool true]) ∧ Q o kids r lg2 un2 W X ∧ But w.heap.size b w W ∧ Jr w' b (str (jskip r)) lg2 un2 ∧ But w.heap.size b w w' ∧ w.heap.size < W.heap.size ∧ ButS (fun k => k = w.heap.size ∨ k = b) X w' := by
  have hbw := h.lt
  have KT := Lib.hid kt
  have HE := Lib.hid hend
  have J0 : Hid (Jr (w.alloc (.cells #[.int .i64 0, .bool false, .int .u64 0, .int .u64 0, .int .u64 0, .int .u64 0, .int .u64 0, .string ⟨#[]⟩, .slice none 0 0, .slice none 0 0] 32)) b (str l) lg un) := Lib.hid (h.alloc _)
  have B0 : Hid (But w.heap.size b w (w.alloc (.cells #[.int .i64 0, .bool false, .int .u64 0, .int .u64 0, .int .u64 0, .int .u64 0, .int .u64 0, .string ⟨#[]⟩, .slice none 0 0, .slice none 0 0] 32))) := Lib.hid (But.of (bal (Below.refl _ _) _))
  have A0 : Hid (Row10 (w.alloc (.cells #[.int .i64 0, .bool false, .int .u64 0, .int .u64 0, .int .u64 0, .int .u64 0, .int .u64 0, .string ⟨#[]⟩, .slice none 0 0, .slice none 0 0] 32)) w.heap.size (.int .i64 0) (.bool false) (.int .u64 0) (.int .u64 0) (.int .u64 0) (.int .u64 0) (.int .u64 0) (.string ⟨#[]⟩) (.slice none 0 0) (.slice none 0 0)) := Lib.hid (Row10.new w (.int .i64 0) (.bool false) (.int .u64 0) (.int .u64 0) (.int .u64 0) (.int .u64 0) (.int .u64 0) (.string ⟨#[]⟩) (.slice none 0 0) (.slice none 0 0))
  clear h kt hend
  go_enter Tryz.func11, Tryz.ntmps11
  go_wp2_with (first
    | (go_at_call 17; ((with_reducible refine (KT.out _ B0.out J0.out).mono ?_); rintro e w1 ⟨o, kids, r, lg2, un2, rfl, hQ, hj, hb⟩; have HQ := Lib.hid hQ; have J1 := Lib.hid hj; have HB1 := Lib.hid hb; have s1 : w.heap.size + 1 ≤ w1.heap.size := (by have h9 := hb.size; simpa using h9); have B1 := Lib.hid (B0.out.trans (hb.mono (by simp))); have A1 := Lib.hid (A0.out.butJ hb (by omega)); have A2 : Hid (Row10 (w1.alloc (.cells #[.int .i64 o.kind, .bool o.g, .int .u64 (lb 0 o.x), .int .u64 (lb 1 o.x), .int .u64 (lb 2 o.x), .int .u64 (lb 3 o.x), .int .u64 o.bits, .string o.text, .slice o.la kids.length o.lcap, .slice o.ka o.keys.length o.kcap] 32)) w.heap.size (.int .i64 0) (.bool false) (.int .u64 0) (.int .u64 0) (.int .u64 0) (.int .u64 0) (.int .u64 0) (.string ⟨#[]⟩) (.slice none 0 0) (.slice none 0 0)) := Lib.hid (A1.out.alloc _); have D2 : Hid (Row10 (w1.alloc (.cells #[.int .i64 o.kind, .bool o.g, .int .u64 (lb 0 o.x), .int .u64 (lb 1 o.x), .int .u64 (lb 2 o.x), .int .u64 (lb 3 o.x), .int .u64 o.bits, .string o.text, .slice o.la kids.length o.lcap, .slice o.ka o.keys.length o.kcap] 32)) w1.heap.size (.int .i64 o.kind) (.bool o.g) (.int .u64 (lb 0 o.x)) (.int .u64 (lb 1 o.x)) (.int .u64 (lb 2 o.x)) (.int .u64 (lb 3 o.x)) (.int .u64 o.bits) (.string o.text) (.slice o.la kids.length o.lcap) (.slice o.ka o.keys.length o.kcap)) := Lib.hid (Row10.new w1 (.int .i64 o.kind) (.bool o.g) (.int .u64 (lb 0 o.x)) (.int .u64 (lb 1 o.x)) (.int .u64 (lb 2 o.x)) (.int .u64 (lb 3 o.x)) (.int .u64 o.bits) (.string o.text) (.slice o.la kids.length o.lcap) (.slice o.ka o.keys.length o.kcap)); have J2 : Hid (Jr (w1.alloc (.cells #[.int .i64 o.kind, .bool o.g, .int .u64 (lb 0 o.x), .int .u64 (lb 1 o.x), .int .u64 (lb 2 o.x), .int .u64 (lb 3 o.x), .int .u64 o.bits, .string o.text, .slice o.la kids.length o.lcap, .slice o.ka o.keys.length o.kcap] 32)) b (str r) lg2 un2) := Lib.hid (J1.out.alloc _); have B2 : Hid (But w.heap.size b w (w1.alloc (.cells #[.int .i64 o.kind, .bool o.g, .int .u64 (lb 0 o.x), .int .u64 (lb 1 o.x), .int .u64 (lb 2 o.x), .int .u64 (lb 3 o.x), .int .u64 o.bits, .string o.text, .slice o.la kids.length o.lcap, .slice o.ka o.keys.length o.kcap] 32))) := Lib.hid (B1.out.trans (But.ofB (bal (Below.refl _ w1) _) (by omega))); clear hQ hj hb))
    | (go_at_call 18; ((with_reducible refine (rskip_any r b lg2 un2 _ J2.out).mono ?_); rintro e w3 ⟨rfl, hj, hb⟩; have J3 := Lib.hid hj; have HB3 := Lib.hid hb; have B3 := Lib.hid (B2.out.trans (hb.mono (by simp; omega))); have A3 := Lib.hid (A2.out.butJ hb (by omega)); have D3 := Lib.hid (D2.out.butJ hb (by omega)); obtain ⟨a0, a1, a2, a3, a4, a5, a6, a7, a8, a9⟩ := A3.out.parts; have al := A3.out.lt; have af := A3.out.free; obtain ⟨d0, d1, d2, d3, d4, d5, d6, d7, d8, d9⟩ := D3.out.parts; have he := HE.out _ _ _ _ _ _ _ HQ.out; have J3b := J3.out; rw [he] at J3b; rw [show str [] = (⟨#[]⟩ : ByteArray) from rfl] at J3b; obtain ⟨p0, p1, p2, q0, q1, q2⟩ := J3b.parts; clear hj hb)))
  refine wp_region_held_drew (S := (fun w' => w'.cell? ⟨b, 0, none⟩ = some (.string ⟨#[]⟩) ∧ w'.cell? ⟨w1.heap.size, 0, none⟩ = some (.int .i64 o.kind) ∧ w'.cell? ⟨w1.heap.size, 1, none⟩ = some (.bool o.g) ∧ w'.cell? ⟨w1.heap.size, 2, none⟩ = some (.int .u64 (lb 0 o.x)) ∧ w'.cell? ⟨w1.heap.size, 3, none⟩ = some (.int .u64 (lb 1 o.x)) ∧ w'.cell? ⟨w1.heap.size, 4, none⟩ = some (.int .u64 (lb 2 o.x)) ∧ w'.cell? ⟨w1.heap.size, 5, none⟩ = some (.int .u64 (lb 3 o.x)) ∧ w'.cell? ⟨w1.heap.size, 6, none⟩ = some (.int .u64 o.bits) ∧ w'.cell? ⟨w1.heap.size, 7, none⟩ = some (.string o.text) ∧ w'.cell? ⟨w1.heap.size, 8, none⟩ = some (.slice o.la kids.length o.lcap) ∧ w'.cell? ⟨w1.heap.size, 9, none⟩ = some (.slice o.ka o.keys.length o.kcap))) (by kernel_rfl) (by (refine ⟨by (exact (Jr.parts (s := ⟨#[]⟩) (lg := lg2) (un := un2) (by (repeat (first | (with_reducible exact J3b) | (with_reducible refine Jr.drewR ?_) | (with_reducible refine Jr.set ?_ (by omega) _ _))); done)).1), ?_⟩; (refine Row10.parts ?_; (repeat (first | (with_reducible exact D3.out) | (with_reducible refine Row10.drew ?_) | (with_reducible refine Row10.set ?_ (by omega) _))); done))) (fun hHeld => ?_)
  refine wpAnyH_take (i := 0) (v := ?_) rfl (by kernel_rfl) (by kernel_rfl) (by kernel_rfl) (fun _ _ _ h => h) (Or.inl ⟨by rfl, fun w' hSw => ?_⟩) hHeld ?_
  rotate_left
  focus (dsimp only at hSw; obtain ⟨p0, d0, d1, d2, d3, d4, d5, d6, d7, d8, d9⟩ := hSw; go_simp <;> with_reducible rfl)
  try simp only [Act.put, List.getElem_toArray, List.getElem_cons_succ, List.getElem_cons_zero, List.setIfInBounds_toArray, List.set_cons_zero, List.set_cons_succ]
  refine wpAnyH_take (i := 1) (v := ?_) rfl (by kernel_rfl) (by kernel_rfl) (by kernel_rfl) (fun _ _ _ h => h) (Or.inl ⟨by rfl, fun w' hSw => ?_⟩) hHeld ?_
  rotate_left
  focus (dsimp only at hSw; obtain ⟨p0, d0, d1, d2, d3, d4, d5, d6, d7, d8, d9⟩ := hSw; go_simp <;> with_reducible rfl)
  try simp only [Act.put, List.getElem_toArray, List.getElem_cons_succ, List.getElem_cons_zero, List.setIfInBounds_toArray, List.set_cons_zero, List.set_cons_succ]
  refine wpAnyH_take (i := 2) (v := ?_) rfl (by kernel_rfl) (by kernel_rfl) (by kernel_rfl) (fun _ _ _ h => h) (Or.inl ⟨by rfl, fun w' hSw => ?_⟩) hHeld ?_
  rotate_left
  focus (dsimp only at hSw; obtain ⟨p0, d0, d1, d2, d3, d4, d5, d6, d7, d8, d9⟩ := hSw; go_simp <;> with_reducible rfl)
  try simp only [Act.put, List.getElem_toArray, List.getElem_cons_succ, List.getElem_cons_zero, List.setIfInBounds_toArray, List.set_cons_zero, List.set_cons_succ]
  refine wpAnyH_take (i := 3) (v := ?_) rfl (by kernel_rfl) (by kernel_rfl) (by kernel_rfl) (fun _ _ _ h => h) (Or.inl ⟨by rfl, fun w' hSw => ?_⟩) hHeld ?_
  rotate_left
  focus (dsimp only at hSw; obtain ⟨p0, d0, d1, d2, d3, d4, d5, d6, d7, d8, d9⟩ := hSw; go_simp <;> with_reducible rfl)
  try simp only [Act.put, List.getElem_toArray, List.getElem_cons_succ, List.getElem_cons_zero, List.setIfInBounds_toArray, List.set_cons_zero, List.set_cons_succ]
  refine wpAnyH_take (i := 4) (v := ?_) rfl (by kernel_rfl) (by kernel_rfl) (by kernel_rfl) (fun _ _ _ h => h) (Or.inl ⟨by rfl, fun w' hSw => ?_⟩) hHeld ?_
  rotate_left
  focus (dsimp only at hSw; obtain ⟨p0, d0, d1, d2, d3, d4, d5, d6, d7, d8, d9⟩ := hSw; go_simp <;> with_reducible rfl)
  try simp only [Act.put, List.getElem_toArray, List.getElem_cons_succ, List.getElem_cons_zero, List.setIfInBounds_toArray, List.set_cons_zero, List.set_cons_succ]
  refine wpAnyH_take (i := 5) (v := ?_) rfl (by kernel_rfl) (by kernel_rfl) (by kernel_rfl) (fun _ _ _ h => h) (Or.inl ⟨by rfl, fun w' hSw => ?_⟩) hHeld ?_
  rotate_left
  focus (dsimp only at hSw; obtain ⟨p0, d0, d1, d2, d3, d4, d5, d6, d7, d8, d9⟩ := hSw; go_simp <;> with_reducible rfl)
  try simp only [Act.put, List.getElem_toArray, List.getElem_cons_succ, List.getElem_cons_zero, List.setIfInBounds_toArray, List.set_cons_zero, List.set_cons_succ]
  refine wpAnyH_take (i := 6) (v := ?_) rfl (by kernel_rfl) (by kernel_rfl) (by kernel_rfl) (fun _ _ _ h => h) (Or.inl ⟨by rfl, fun w' hSw => ?_⟩) hHeld ?_
  rotate_left
  focus (dsimp only at hSw; obtain ⟨p0, d0, d1, d2, d3, d4, d5, d6, d7, d8, d9⟩ := hSw; go_simp <;> with_reducible rfl)
  try simp only [Act.put, List.getElem_toArray, List.getElem_cons_succ, List.getElem_cons_zero, List.setIfInBounds_toArray, List.set_cons_zero, List.set_cons_succ]
  refine wpAnyH_take (i := 7) (v := ?_) rfl (by kernel_rfl) (by kernel_rfl) (by kernel_rfl) (fun _ _ _ h => h) (Or.inl ⟨by rfl, fun w' hSw => ?_⟩) hHeld ?_
  rotate_left
  focus (dsimp only at hSw; obtain ⟨p0, d0, d1, d2, d3, d4, d5, d6, d7, d8, d9⟩ := hSw; go_simp <;> with_reducible rfl)
  try simp only [Act.put, List.getElem_toArray, List.getElem_cons_succ, List.getElem_cons_zero, List.setIfInBounds_toArray, List.set_cons_zero, List.set_cons_succ]
  refine wpAnyH_take (i := 8) (v := ?_) rfl (by kernel_rfl) (by kernel_rfl) (by kernel_rfl) (fun _ _ _ h => h) (Or.inl ⟨by rfl, fun w' hSw => ?_⟩) hHeld ?_
  rotate_left
  focus (dsimp only at hSw; obtain ⟨p0, d0, d1, d2, d3, d4, d5, d6, d7, d8, d9⟩ := hSw; go_simp <;> with_reducible rfl)
  try simp only [Act.put, List.getElem_toArray, List.getElem_cons_succ, List.getElem_cons_zero, List.setIfInBounds_toArray, List.set_cons_zero, List.set_cons_succ]
  refine wpAnyH_ready (rs := [9]) (by kernel_rfl) (by simp) ?_
  refine AllReadyH.cons rfl (fun K hK => ?_) AllReadyH.nil
  go_simp
  refine hK.out _ _ ?_ (fun hHeld => ?_)
  · (refine ⟨by (exact (Jr.parts (s := ⟨#[]⟩) (lg := lg2) (un := un2) (by (repeat (first | (with_reducible exact J3b) | (with_reducible refine Jr.drewR ?_) | (with_reducible refine Jr.set ?_ (by omega) _ _))); done)).1), ?_⟩; (refine Row10.parts ?_; (repeat (first | (with_reducible exact D3.out) | (with_reducible refine Row10.drew ?_) | (with_reducible refine Row10.set ?_ (by omega) _))); done))
  clear hK K
  try simp only [Act.put, List.getElem_toArray, List.getElem_cons_succ, List.getElem_cons_zero, List.setIfInBounds_toArray, List.set_cons_zero, List.set_cons_succ]
  refine wpAnyH_take (i := 10) (v := ?_) rfl (by kernel_rfl) (by kernel_rfl) (by kernel_rfl) (fun _ _ _ h => h) (Or.inl ⟨by rfl, fun w' hSw => ?_⟩) hHeld ?_
  rotate_left
  focus (dsimp only at hSw; obtain ⟨p0, d0, d1, d2, d3, d4, d5, d6, d7, d8, d9⟩ := hSw; go_simp <;> with_reducible rfl)
  try simp only [Act.put, List.getElem_toArray, List.getElem_cons_succ, List.getElem_cons_zero, List.setIfInBounds_toArray, List.set_cons_zero, List.set_cons_succ]
  refine wpAnyH_done (by kernel_rfl) ?_ _
  go_wp2
  obtain ⟨z0, z1, z2, z3, z4, z5, z6, z7, z8, z9⟩ := (Row10.drew (A3.out.set10 (.int .i64 o.kind) (.bool o.g) (.int .u64 (lb 0 o.x)) (.int .u64 (lb 1 o.x)) (.int .u64 (lb 2 o.x)) (.int .u64 (lb 3 o.x)) (.int .u64 o.bits) (.string o.text) (.slice o.la kids.length o.lcap) (.slice o.ka o.keys.length o.kcap))).parts
  refine bodyPost_ret (v := .tuple #[V10 o.kind o.g (lb 0 o.x) (lb 1 o.x) (lb 2 o.x) (lb 3 o.x) o.bits o.text o.la kids.length o.lcap o.ka o.keys.length o.kcap, .bool true]) (by simp [results, Tryz.results11, go_sem, z0, z1, z2, z3, z4, z5, z6, z7, z8, z9]) rfl ?_
  exact ⟨o, kids, r, lg2, un2, _, w1, rfl, HQ.out, B0.out, Jr.drewR (J3.out.set10 (by omega) _ _ _ _ _ _ _ _ _ _), But.drewJ (B3.out.set10 (Nat.le_refl _) _ _ _ _ _ _ _ _ _ _), by simp, ButS.drewR (((ButS.below (bal (Below.refl _ w1) (.cells #[.int .i64 o.kind, .bool o.g, .int .u64 (lb 0 o.x), .int .u64 (lb 1 o.x), .int .u64 (lb 2 o.x), .int .u64 (lb 3 o.x), .int .u64 o.bits, .string o.text, .slice o.la kids.length o.lcap, .slice o.ka o.keys.length o.kcap] 32))).trans (ButS.but HB3.out (Or.inr rfl))).trans (ButS.set10 (S := fun k => k = w.heap.size ∨ k = b) w3 (c := w.heap.size) (Or.inl rfl) _ _ _ _ _ _ _ _ _ _))⟩
set_option maxRecDepth 100000 in
set_option maxHeartbeats 2000000 in
theorem rdoc_no (l : List UInt8) (b : Nat) (lg un : Bool) (w : World) (h : Jr w b (str l) lg un) (Q : Own → List VT → List UInt8 → Bool → Bool → World → World → Prop) 
    (kt : ∀ W, But w.heap.size b w W → Jr W b (str l) lg un → Calls Tryz.prog 17 #[.pointer (some ⟨b, 0, none⟩)] W fun e w' => ∃ (o : Own) (kids : List VT) (r : List UInt8) (lg2 un2 : Bool), e = .returned (.tuple #[V10 o.kind o.g (lb 0 o.x) (lb 1 o.x) (lb 2 o.x) (lb 3 o.x) o.bits o.text o.la kids.length o.lcap o.ka o.keys.length o.kcap, .bool false]) ∧ Q o kids r lg2 un2 W w' ∧ Jr w' b (str r) lg2 un2 ∧ But W.heap.size b W w') :
    Calls Tryz.prog 11 #[.pointer (some ⟨b, 0, none⟩)] w fun e w' => ∃ (o : Own) (kids : List VT) (r : List UInt8) (lg2 un2 : Bool) (W X : World), e = .returned (.tuple #[V10 o.kind o.g (lb 0 o.x) (lb 1 o.x) (lb 2 o.x) (lb 3 o.x) o.bits o.text o.la kids.length o.lcap o.ka o.keys.length o.kcap, .bool false]) ∧ Q o kids r lg2 un2 W X ∧ But w.heap.size b w W ∧ Jr w' b (str (jskip r)) lg2 un2 ∧ But w.heap.size b w w' ∧ w.heap.size < W.heap.size ∧ ButS (fun k => k = w.heap.size ∨ k = b) X w' := by
  have hbw := h.lt
  have KT := Lib.hid kt
  skip
  have J0 : Hid (Jr (w.alloc (.cells #[.int .i64 0, .bool false, .int .u64 0, .int .u64 0, .int .u64 0, .int .u64 0, .int .u64 0, .string ⟨#[]⟩, .slice none 0 0, .slice none 0 0] 32)) b (str l) lg un) := Lib.hid (h.alloc _)
  have B0 : Hid (But w.heap.size b w (w.alloc (.cells #[.int .i64 0, .bool false, .int .u64 0, .int .u64 0, .int .u64 0, .int .u64 0, .int .u64 0, .string ⟨#[]⟩, .slice none 0 0, .slice none 0 0] 32))) := Lib.hid (But.of (bal (Below.refl _ _) _))
  have A0 : Hid (Row10 (w.alloc (.cells #[.int .i64 0, .bool false, .int .u64 0, .int .u64 0, .int .u64 0, .int .u64 0, .int .u64 0, .string ⟨#[]⟩, .slice none 0 0, .slice none 0 0] 32)) w.heap.size (.int .i64 0) (.bool false) (.int .u64 0) (.int .u64 0) (.int .u64 0) (.int .u64 0) (.int .u64 0) (.string ⟨#[]⟩) (.slice none 0 0) (.slice none 0 0)) := Lib.hid (Row10.new w (.int .i64 0) (.bool false) (.int .u64 0) (.int .u64 0) (.int .u64 0) (.int .u64 0) (.int .u64 0) (.string ⟨#[]⟩) (.slice none 0 0) (.slice none 0 0))
  clear h kt
  go_enter Tryz.func11, Tryz.ntmps11
  go_wp2_with (first
    | (go_at_call 17; ((with_reducible refine (KT.out _ B0.out J0.out).mono ?_); rintro e w1 ⟨o, kids, r, lg2, un2, rfl, hQ, hj, hb⟩; have HQ := Lib.hid hQ; have J1 := Lib.hid hj; have HB1 := Lib.hid hb; have s1 : w.heap.size + 1 ≤ w1.heap.size := (by have h9 := hb.size; simpa using h9); have B1 := Lib.hid (B0.out.trans (hb.mono (by simp))); have A1 := Lib.hid (A0.out.butJ hb (by omega)); have A2 : Hid (Row10 (w1.alloc (.cells #[.int .i64 o.kind, .bool o.g, .int .u64 (lb 0 o.x), .int .u64 (lb 1 o.x), .int .u64 (lb 2 o.x), .int .u64 (lb 3 o.x), .int .u64 o.bits, .string o.text, .slice o.la kids.length o.lcap, .slice o.ka o.keys.length o.kcap] 32)) w.heap.size (.int .i64 0) (.bool false) (.int .u64 0) (.int .u64 0) (.int .u64 0) (.int .u64 0) (.int .u64 0) (.string ⟨#[]⟩) (.slice none 0 0) (.slice none 0 0)) := Lib.hid (A1.out.alloc _); have D2 : Hid (Row10 (w1.alloc (.cells #[.int .i64 o.kind, .bool o.g, .int .u64 (lb 0 o.x), .int .u64 (lb 1 o.x), .int .u64 (lb 2 o.x), .int .u64 (lb 3 o.x), .int .u64 o.bits, .string o.text, .slice o.la kids.length o.lcap, .slice o.ka o.keys.length o.kcap] 32)) w1.heap.size (.int .i64 o.kind) (.bool o.g) (.int .u64 (lb 0 o.x)) (.int .u64 (lb 1 o.x)) (.int .u64 (lb 2 o.x)) (.int .u64 (lb 3 o.x)) (.int .u64 o.bits) (.string o.text) (.slice o.la kids.length o.lcap) (.slice o.ka o.keys.length o.kcap)) := Lib.hid (Row10.new w1 (.int .i64 o.kind) (.bool o.g) (.int .u64 (lb 0 o.x)) (.int .u64 (lb 1 o.x)) (.int .u64 (lb 2 o.x)) (.int .u64 (lb 3 o.x)) (.int .u64 o.bits) (.string o.text) (.slice o.la kids.length o.lcap) (.slice o.ka o.keys.length o.kcap)); have J2 : Hid (Jr (w1.alloc (.cells #[.int .i64 o.kind, .bool o.g, .int .u64 (lb 0 o.x), .int .u64 (lb 1 o.x), .int .u64 (lb 2 o.x), .int .u64 (lb 3 o.x), .int .u64 o.bits, .string o.text, .slice o.la kids.length o.lcap, .slice o.ka o.keys.length o.kcap] 32)) b (str r) lg2 un2) := Lib.hid (J1.out.alloc _); have B2 : Hid (But w.heap.size b w (w1.alloc (.cells #[.int .i64 o.kind, .bool o.g, .int .u64 (lb 0 o.x), .int .u64 (lb 1 o.x), .int .u64 (lb 2 o.x), .int .u64 (lb 3 o.x), .int .u64 o.bits, .string o.text, .slice o.la kids.length o.lcap, .slice o.ka o.keys.length o.kcap] 32))) := Lib.hid (B1.out.trans (But.ofB (bal (Below.refl _ w1) _) (by omega))); clear hQ hj hb))
    | (go_at_call 18; ((with_reducible refine (rskip_any r b lg2 un2 _ J2.out).mono ?_); rintro e w3 ⟨rfl, hj, hb⟩; have J3 := Lib.hid hj; have HB3 := Lib.hid hb; have B3 := Lib.hid (B2.out.trans (hb.mono (by simp; omega))); have A3 := Lib.hid (A2.out.butJ hb (by omega)); have D3 := Lib.hid (D2.out.butJ hb (by omega)); obtain ⟨a0, a1, a2, a3, a4, a5, a6, a7, a8, a9⟩ := A3.out.parts; have al := A3.out.lt; have af := A3.out.free; obtain ⟨d0, d1, d2, d3, d4, d5, d6, d7, d8, d9⟩ := D3.out.parts; clear hj hb)))
  refine wp_region_held_drew (S := (fun w' => w'.cell? ⟨w1.heap.size, 0, none⟩ = some (.int .i64 o.kind) ∧ w'.cell? ⟨w1.heap.size, 1, none⟩ = some (.bool o.g) ∧ w'.cell? ⟨w1.heap.size, 2, none⟩ = some (.int .u64 (lb 0 o.x)) ∧ w'.cell? ⟨w1.heap.size, 3, none⟩ = some (.int .u64 (lb 1 o.x)) ∧ w'.cell? ⟨w1.heap.size, 4, none⟩ = some (.int .u64 (lb 2 o.x)) ∧ w'.cell? ⟨w1.heap.size, 5, none⟩ = some (.int .u64 (lb 3 o.x)) ∧ w'.cell? ⟨w1.heap.size, 6, none⟩ = some (.int .u64 o.bits) ∧ w'.cell? ⟨w1.heap.size, 7, none⟩ = some (.string o.text) ∧ w'.cell? ⟨w1.heap.size, 8, none⟩ = some (.slice o.la kids.length o.lcap) ∧ w'.cell? ⟨w1.heap.size, 9, none⟩ = some (.slice o.ka o.keys.length o.kcap))) (by kernel_rfl) (by (refine Row10.parts ?_; (repeat (first | (with_reducible exact D3.out) | (with_reducible refine Row10.drew ?_) | (with_reducible refine Row10.set ?_ (by omega) _))); done)) (fun hHeld => ?_)
  refine wpAnyH_take (i := 0) (v := ?_) rfl (by kernel_rfl) (by kernel_rfl) (by kernel_rfl) (fun _ _ _ h => h) (Or.inl ⟨by rfl, fun w' hSw => ?_⟩) hHeld ?_
  rotate_left
  focus (dsimp only at hSw; obtain ⟨d0, d1, d2, d3, d4, d5, d6, d7, d8, d9⟩ := hSw; go_simp <;> with_reducible rfl)
  try simp only [Act.put, List.getElem_toArray, List.getElem_cons_succ, List.getElem_cons_zero, List.setIfInBounds_toArray, List.set_cons_zero, List.set_cons_succ]
  refine wpAnyH_take (i := 1) (v := ?_) rfl (by kernel_rfl) (by kernel_rfl) (by kernel_rfl) (fun _ _ _ h => h) (Or.inl ⟨by rfl, fun w' hSw => ?_⟩) hHeld ?_
  rotate_left
  focus (dsimp only at hSw; obtain ⟨d0, d1, d2, d3, d4, d5, d6, d7, d8, d9⟩ := hSw; go_simp <;> with_reducible rfl)
  try simp only [Act.put, List.getElem_toArray, List.getElem_cons_succ, List.getElem_cons_zero, List.setIfInBounds_toArray, List.set_cons_zero, List.set_cons_succ]
  refine wpAnyH_take (i := 2) (v := ?_) rfl (by kernel_rfl) (by kernel_rfl) (by kernel_rfl) (fun _ _ _ h => h) (Or.inl ⟨by rfl, fun w' hSw => ?_⟩) hHeld ?_
  rotate_left
  focus (dsimp only at hSw; obtain ⟨d0, d1, d2, d3, d4, d5, d6, d7, d8, d9⟩ := hSw; go_simp <;> with_reducible rfl)
  try simp only [Act.put, List.getElem_toArray, List.getElem_cons_succ, List.getElem_cons_zero, List.setIfInBounds_toArray, List.set_cons_zero, List.set_cons_succ]
  refine wpAnyH_take (i := 3) (v := undef) rfl (by kernel_rfl) (by kernel_rfl) (by kernel_rfl) (fun _ _ _ h => h) (Or.inr ⟨by rfl, rfl⟩) hHeld ?_
  try simp only [Act.put, List.getElem_toArray, List.getElem_cons_succ, List.getElem_cons_zero, List.setIfInBounds_toArray, List.set_cons_zero, List.set_cons_succ]
  refine wpAnyH_take (i := 4) (v := undef) rfl (by kernel_rfl) (by kernel_rfl) (by kernel_rfl) (fun _ _ _ h => h) (Or.inr ⟨by rfl, rfl⟩) hHeld ?_
  try simp only [Act.put, List.getElem_toArray, List.getElem_cons_succ, List.getElem_cons_zero, List.setIfInBounds_toArray, List.set_cons_zero, List.set_cons_succ]
  refine wpAnyH_take (i := 5) (v := undef) rfl (by kernel_rfl) (by kernel_rfl) (by kernel_rfl) (fun _ _ _ h => h) (Or.inr ⟨by rfl, rfl⟩) hHeld ?_
  try simp only [Act.put, List.getElem_toArray, List.getElem_cons_succ, List.getElem_cons_zero, List.setIfInBounds_toArray, List.set_cons_zero, List.set_cons_succ]
  refine wpAnyH_take (i := 6) (v := undef) rfl (by kernel_rfl) (by kernel_rfl) (by kernel_rfl) (fun _ _ _ h => h) (Or.inr ⟨by rfl, rfl⟩) hHeld ?_
  try simp only [Act.put, List.getElem_toArray, List.getElem_cons_succ, List.getElem_cons_zero, List.setIfInBounds_toArray, List.set_cons_zero, List.set_cons_succ]
  refine wpAnyH_take (i := 7) (v := undef) rfl (by kernel_rfl) (by kernel_rfl) (by kernel_rfl) (fun _ _ _ h => h) (Or.inr ⟨by rfl, rfl⟩) hHeld ?_
  try simp only [Act.put, List.getElem_toArray, List.getElem_cons_succ, List.getElem_cons_zero, List.setIfInBounds_toArray, List.set_cons_zero, List.set_cons_succ]
  refine wpAnyH_take (i := 8) (v := ?_) rfl (by kernel_rfl) (by kernel_rfl) (by kernel_rfl) (fun _ _ _ h => h) (Or.inl ⟨by rfl, fun w' hSw => ?_⟩) hHeld ?_
  rotate_left
  focus (dsimp only at hSw; obtain ⟨d0, d1, d2, d3, d4, d5, d6, d7, d8, d9⟩ := hSw; go_simp <;> with_reducible rfl)
  try simp only [Act.put, List.getElem_toArray, List.getElem_cons_succ, List.getElem_cons_zero, List.setIfInBounds_toArray, List.set_cons_zero, List.set_cons_succ]
  refine wpAnyH_ready (rs := [9]) (by kernel_rfl) (by simp) ?_
  refine AllReadyH.cons rfl (fun K hK => ?_) AllReadyH.nil
  go_simp
  refine hK.out _ _ ?_ (fun hHeld => ?_)
  · (refine Row10.parts ?_; (repeat (first | (with_reducible exact D3.out) | (with_reducible refine Row10.drew ?_) | (with_reducible refine Row10.set ?_ (by omega) _))); done)
  clear hK K
  try simp only [Act.put, List.getElem_toArray, List.getElem_cons_succ, List.getElem_cons_zero, List.setIfInBounds_toArray, List.set_cons_zero, List.set_cons_succ]
  refine wpAnyH_take (i := 10) (v := ?_) rfl (by kernel_rfl) (by kernel_rfl) (by kernel_rfl) (fun _ _ _ h => h) (Or.inl ⟨by rfl, fun w' hSw => ?_⟩) hHeld ?_
  rotate_left
  focus (dsimp only at hSw; obtain ⟨d0, d1, d2, d3, d4, d5, d6, d7, d8, d9⟩ := hSw; go_simp <;> with_reducible rfl)
  try simp only [Act.put, List.getElem_toArray, List.getElem_cons_succ, List.getElem_cons_zero, List.setIfInBounds_toArray, List.set_cons_zero, List.set_cons_succ]
  refine wpAnyH_done (by kernel_rfl) ?_ _
  go_wp2
  obtain ⟨z0, z1, z2, z3, z4, z5, z6, z7, z8, z9⟩ := (Row10.drew (A3.out.set10 (.int .i64 o.kind) (.bool o.g) (.int .u64 (lb 0 o.x)) (.int .u64 (lb 1 o.x)) (.int .u64 (lb 2 o.x)) (.int .u64 (lb 3 o.x)) (.int .u64 o.bits) (.string o.text) (.slice o.la kids.length o.lcap) (.slice o.ka o.keys.length o.kcap))).parts
  refine bodyPost_ret (v := .tuple #[V10 o.kind o.g (lb 0 o.x) (lb 1 o.x) (lb 2 o.x) (lb 3 o.x) o.bits o.text o.la kids.length o.lcap o.ka o.keys.length o.kcap, .bool false]) (by simp [results, Tryz.results11, go_sem, z0, z1, z2, z3, z4, z5, z6, z7, z8, z9]) rfl ?_
  exact ⟨o, kids, r, lg2, un2, _, w1, rfl, HQ.out, B0.out, Jr.drewR (J3.out.set10 (by omega) _ _ _ _ _ _ _ _ _ _), But.drewJ (B3.out.set10 (Nat.le_refl _) _ _ _ _ _ _ _ _ _ _), by simp, ButS.drewR (((ButS.below (bal (Below.refl _ w1) (.cells #[.int .i64 o.kind, .bool o.g, .int .u64 (lb 0 o.x), .int .u64 (lb 1 o.x), .int .u64 (lb 2 o.x), .int .u64 (lb 3 o.x), .int .u64 o.bits, .string o.text, .slice o.la kids.length o.lcap, .slice o.ka o.keys.length o.kcap] 32))).trans (ButS.but HB3.out (Or.inr rfl))).trans (ButS.set10 (S := fun k => k = w.heap.size ∨ k = b) w3 (c := w.heap.size) (Or.inl rfl) _ _ _ _ _ _ _ _ _ _))⟩
end Go.Proofs.YtebfggiodhaahaaGreatDoor
end
