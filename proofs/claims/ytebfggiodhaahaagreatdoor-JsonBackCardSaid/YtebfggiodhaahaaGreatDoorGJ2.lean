/-
  JsChunk JsEncT JsItems JsVal JsEnc, one behind the other: a claim holds at most 60 files.
-/
import Derived.Test.YtebfggiodhaahaaGreatDoorGD
import Derived.Test.YtebfggiodhaahaaGreatDoorGA
import Derived.Test.YtebfggiodhaahaaGreatDoorGP
import Derived.Test.YtebfggiodhaahaaGreatDoorJsStr
import Derived.Test.YtebfggiodhaahaaGreatDoorValIn
import Derived.Test.YtebfggiodhaahaaGreatDoorGJ3
import Derived.Deep.RegionHeld3
import Derived.Test.YtebfggiodhaahaaGreatDoorPtxLen
section
namespace Go.Proofs.YtebfggiodhaahaaGreatDoor
open Go.RowKit Go.Shelf
set_option linter.unusedVariables false

set_option maxHeartbeats 1000000 in
theorem cut_core (a0 a1 a2 a3 q0 q1 q2 q3 r0 r1 r2 r3 : Int)
    (D3 : ∀ W, Calls Tryz.prog 145 #[.int .u64 0, .int .u64 a3, .int .u64 10000000000000000000] W fun e w' => e = .returned (.tuple #[.int .u64 q3, .int .u64 r3]) ∧ ∃ n, w' = W.drewN n)
    (D2 : ∀ W, Calls Tryz.prog 145 #[.int .u64 r3, .int .u64 a2, .int .u64 10000000000000000000] W fun e w' => e = .returned (.tuple #[.int .u64 q2, .int .u64 r2]) ∧ ∃ n, w' = W.drewN n)
    (D1 : ∀ W, Calls Tryz.prog 145 #[.int .u64 r2, .int .u64 a1, .int .u64 10000000000000000000] W fun e w' => e = .returned (.tuple #[.int .u64 q1, .int .u64 r1]) ∧ ∃ n, w' = W.drewN n)
    (D0 : ∀ W, Calls Tryz.prog 145 #[.int .u64 r1, .int .u64 a0, .int .u64 10000000000000000000] W fun e w' => e = .returned (.tuple #[.int .u64 q0, .int .u64 r0]) ∧ ∃ n, w' = W.drewN n)
    (w : World) :
    Calls Tryz.prog 101 #[.agg #[.int .u64 a0, .int .u64 a1, .int .u64 a2, .int .u64 a3]] w fun e w' => e = .returned (.tuple #[.agg #[.int .u64 q0, .int .u64 q1, .int .u64 q2, .int .u64 q3], .int .u64 r0]) ∧ Below w.heap.size w w' := by
  have E0 := Lib.hid D0; have E1 := Lib.hid D1; have E2 := Lib.hid D2; have E3 := Lib.hid D3
  clear D0 D1 D2 D3
  go_enter Tryz.func101, Tryz.ntmps101
  go_wp2
  refine wp_loop_rounds 5 ?_
  rw [rounds_succ]
  go_name_world W4 hW4
  have A4 : Row4 W4 w.heap.size (.int .u64 a0) (.int .u64 a1) (.int .u64 a2) (.int .u64 a3) := by rw [← hW4]; exact Row4.alloc (Row4.new _ _ _ _ _) _
  have O4 : Row4 W4 (w.heap.size + 1) (.int .u64 0) (.int .u64 0) (.int .u64 0) (.int .u64 0) := by rw [← hW4]; exact Row4.new' _ (by simp) _ _ _ _
  have B4 : Below w.heap.size w W4 := by rw [← hW4]; exact bal (bal (Below.refl _ _) _) _
  clear hW4
  obtain ⟨ta0, ta1, ta2, ta3, tf0, tf1, tf2, tf3⟩ := A4.parts
  have tl := A4.lt
  go_wp2_with fail
  refine (E3.out _).mono ?_
  rintro e w' ⟨rfl, n3, rfl⟩
  go_wp2
  rw [rounds_succ]
  go_name_world W3 hW3
  have A3 : Row4 W3 w.heap.size (.int .u64 a0) (.int .u64 a1) (.int .u64 a2) (.int .u64 q3) := by rw [← hW3]; exact Row4.put3 (Row4.drewN A4 _) _
  have O3 : Row4 W3 (w.heap.size + 1) (.int .u64 0) (.int .u64 0) (.int .u64 0) (.int .u64 0) := by rw [← hW3]; exact Row4.set (Row4.drewN O4 _) (by omega) _
  have B3 : Below w.heap.size w W3 := by rw [← hW3]; exact bsc (bdn B4 _) (by simp) _
  clear hW3 ta0 ta1 ta2 ta3 tf0 tf1 tf2 tf3 tl A4 O4 B4
  obtain ⟨ta0, ta1, ta2, ta3, tf0, tf1, tf2, tf3⟩ := A3.parts
  have tl := A3.lt
  go_wp2_with fail
  refine (E2.out _).mono ?_
  rintro e w' ⟨rfl, n2, rfl⟩
  go_wp2
  rw [rounds_succ]
  go_name_world W2 hW2
  have A2 : Row4 W2 w.heap.size (.int .u64 a0) (.int .u64 a1) (.int .u64 q2) (.int .u64 q3) := by rw [← hW2]; exact Row4.put2 (Row4.drewN A3 _) _
  have O2 : Row4 W2 (w.heap.size + 1) (.int .u64 0) (.int .u64 0) (.int .u64 0) (.int .u64 0) := by rw [← hW2]; exact Row4.set (Row4.drewN O3 _) (by omega) _
  have B2 : Below w.heap.size w W2 := by rw [← hW2]; exact bsc (bdn B3 _) (by simp) _
  clear hW2 ta0 ta1 ta2 ta3 tf0 tf1 tf2 tf3 tl A3 O3 B3
  obtain ⟨ta0, ta1, ta2, ta3, tf0, tf1, tf2, tf3⟩ := A2.parts
  have tl := A2.lt
  go_wp2_with fail
  refine (E1.out _).mono ?_
  rintro e w' ⟨rfl, n1, rfl⟩
  go_wp2
  rw [rounds_succ]
  go_name_world W1 hW1
  have A1 : Row4 W1 w.heap.size (.int .u64 a0) (.int .u64 q1) (.int .u64 q2) (.int .u64 q3) := by rw [← hW1]; exact Row4.put1 (Row4.drewN A2 _) _
  have O1 : Row4 W1 (w.heap.size + 1) (.int .u64 0) (.int .u64 0) (.int .u64 0) (.int .u64 0) := by rw [← hW1]; exact Row4.set (Row4.drewN O2 _) (by omega) _
  have B1 : Below w.heap.size w W1 := by rw [← hW1]; exact bsc (bdn B2 _) (by simp) _
  clear hW1 ta0 ta1 ta2 ta3 tf0 tf1 tf2 tf3 tl A2 O2 B2
  obtain ⟨ta0, ta1, ta2, ta3, tf0, tf1, tf2, tf3⟩ := A1.parts
  have tl := A1.lt
  go_wp2_with fail
  refine (E0.out _).mono ?_
  rintro e w' ⟨rfl, n0, rfl⟩
  go_wp2
  rw [rounds_succ]
  go_name_world W0 hW0
  have A0 : Row4 W0 w.heap.size (.int .u64 q0) (.int .u64 q1) (.int .u64 q2) (.int .u64 q3) := by rw [← hW0]; exact Row4.put0 (Row4.drewN A1 _) _
  have O0 : Row4 W0 (w.heap.size + 1) (.int .u64 0) (.int .u64 0) (.int .u64 0) (.int .u64 0) := by rw [← hW0]; exact Row4.set (Row4.drewN O1 _) (by omega) _
  have B0 : Below w.heap.size w W0 := by rw [← hW0]; exact bsc (bdn B1 _) (by simp) _
  clear hW0 ta0 ta1 ta2 ta3 tf0 tf1 tf2 tf3 tl A1 O1 B1
  obtain ⟨ta0, ta1, ta2, ta3, tf0, tf1, tf2, tf3⟩ := A0.parts
  have tl := A0.lt
  obtain ⟨tz0, tz1, tz2, tz3, zf0, zf1, zf2, zf3⟩ := O0.parts
  go_wp2
  exact bodyPost_ret (v := .tuple #[.agg #[.int .u64 q0, .int .u64 q1, .int .u64 q2, .int .u64 q3], .int .u64 r0]) (by simp [results, Tryz.results101, go_sem, tz0, tz1, tz2, tz3]) rfl ⟨rfl, bsc4 B0 (by omega) _ _ _ _⟩
theorem cut_any (x : Nat) (hx : x < 2 ^ 256) (w : World) :
    Calls Tryz.prog 101 #[N4 x] w fun e w' => e = .returned (.tuple #[N4 (x / 10000000000000000000), .int .u64 ((x % 10000000000000000000 : Nat) : Int)]) ∧ Below w.heap.size w w' := by
  have X := lb_sum x hx
  have x0 := lb_word 0 x; have x1 := lb_word 1 x; have x2 := lb_word 2 x; have x3 := lb_word 3 x
  have hd : 10000000000000000000 < 18446744073709551616 := by decide
  obtain ⟨q3, r3, w3, l3, e3, D3⟩ := div_step (lb 3 x) 0 10000000000000000000 x3 (by decide) hd
  obtain ⟨q2, r2, w2, l2, e2, D2⟩ := div_step (lb 2 x) r3 10000000000000000000 x2 l3 hd
  obtain ⟨q1, r1, w1, l1, e1, D1⟩ := div_step (lb 1 x) r2 10000000000000000000 x1 l2 hd
  obtain ⟨q0, r0, w0, l0, e0, D0⟩ := div_step (lb 0 x) r1 10000000000000000000 x0 l1 hd
  have hv := val4_lt w0 w1 w2 w3
  have tot : (x : Int) = r0 + val4 q0 q1 q2 q3 * (10000000000000000000 : Nat) := by
    rw [← X]
    unfold val4
    rw [Int.add_mul, Int.add_mul, Int.add_mul, Int.mul_assoc, Int.mul_assoc, Int.mul_assoc]
    omega
  have hq : (x : Int) / (10000000000000000000 : Nat) = val4 q0 q1 q2 q3 := by
    rw [tot, Int.add_mul_ediv_right _ _ (by omega), Int.ediv_eq_zero_of_lt (by omega) (by omega), Int.zero_add]
  have hr : (x : Int) % (10000000000000000000 : Nat) = r0 := by
    rw [tot, Int.add_mul_emod_self_right, Int.emod_eq_of_lt (by omega) (by omega)]
  obtain ⟨z0, z1, z2, z3⟩ := lb_of w0 w1 w2 w3 (z := x / 10000000000000000000) (by rw [← hq, Int.natCast_ediv])
  refine (cut_core _ _ _ _ q0 q1 q2 q3 r0 r1 r2 r3 D3 D2 D1 D0 w).mono ?_
  rintro e w' ⟨rfl, hb⟩
  refine ⟨?_, hb⟩
  have hr' : ((x % 10000000000000000000 : Nat) : Int) = r0 := by rw [Int.natCast_emod]; exact hr
  rw [hr']
  simp only [N4, z0, z1, z2, z3]

section
attribute [local go_sem ↓] eql_nat neq_nat
set_option maxHeartbeats 2000000 in
set_option maxRecDepth 100000 in
theorem pnat_core (x : Nat) (hx : x < 2 ^ 256) (w : World) (hT : Tab w)
    (ih : x / 10000000000000000000 ≠ 0 → ∀ W, Below w.heap.size w W → Calls Tryz.prog 62 #[N4 (x / 10000000000000000000)] W fun e w' => e = .returned (.string (dstr (x / 10000000000000000000))) ∧ Below W.heap.size W w') :
    Calls Tryz.prog 62 #[N4 x] w fun e w' => e = .returned (.string (dstr x)) ∧ Below w.heap.size w w' := by
  have HT := Lib.hid hT; have IH := Lib.hid ih
  have KC := Lib.hid (fun W => cut_any x hx W)
  have KF := Lib.hid (fun W (hW : Tab W) => fmt_any (x % 10000000000000000000) (by omega) W hW)
  have hq256 : x / 10000000000000000000 < 2 ^ 256 := by omega
  have heq : eq4 (lb 0 (x / 10000000000000000000)) (lb 1 (x / 10000000000000000000)) (lb 2 (x / 10000000000000000000)) (lb 3 (x / 10000000000000000000)) 0 0 0 0 = decide (x / 10000000000000000000 = 0) := eq4_of (x / 10000000000000000000) 0 hq256 (by decide)
  have hlen := dec_len (k := 19) (r := x % 10000000000000000000) (by decide) (by omega)
  have hpos := dec_pos (x % 10000000000000000000)
  have hqs := dstr_le hq256
  have hsum : x / 10000000000000000000 * 10 ^ 19 + x % 10000000000000000000 = x := by omega
  have hspl := fun h => dec_split (k := 19) (q := x / 10000000000000000000) (r := x % 10000000000000000000) (by decide) h (by omega)
  rw [hsum] at hspl
  have HX0 : Hid (x / 10000000000000000000 = 0 → dstr (x % 10000000000000000000) = dstr x) := Lib.hid (fun h => by rw [show x % 10000000000000000000 = x from by omega])
  have HX1 : Hid (x / 10000000000000000000 ≠ 0 → dstr (x / 10000000000000000000) ++ ⟨(Lib.repeatL (⟨#[48]⟩ : ByteArray).data.toList (19 - (dstr (x % 10000000000000000000)).size)).toArray⟩ ++ dstr (x % 10000000000000000000) = dstr x) := Lib.hid (fun h => by
    have h1 := hspl (Nat.pos_of_ne_zero h)
    apply str_ext
    rw [dstr_list, h1]
    unfold pad
    rw [dstr_size]
    have ea : ∀ a b : ByteArray, (a ++ b).data.toList = a.data.toList ++ b.data.toList := fun a b => by simp
    rw [ea, ea, dstr_list, dstr_list]
    show _ ++ (Lib.repeatL [48] _).toArray.toList ++ _ = _
    rw [repeat_replicate]
    simp)
  rw [show (⟨(Lib.decDigits (x % 10000000000000000000)).toArray⟩ : ByteArray) = dstr (x % 10000000000000000000) from rfl] at KF
  have hps : (dstr (x % 10000000000000000000)).size = (Lib.decDigits (x % 10000000000000000000)).length := dstr_size _
  rw [← hps] at hlen hpos
  clear hps hspl hsum hT ih hx
  obtain ⟨q, hqq⟩ : ∃ q, x / 10000000000000000000 = q := ⟨_, rfl⟩
  rw [hqq] at IH KC heq hq256 hqs HX0 HX1
  obtain ⟨r, hrr⟩ : ∃ r, x % 10000000000000000000 = r := ⟨_, rfl⟩
  rw [hrr] at KC KF hlen hpos HX0 HX1
  obtain ⟨p, hp⟩ : ∃ p, dstr r = p := ⟨_, rfl⟩
  rw [hp] at KF hlen hpos HX0 HX1
  obtain ⟨S, hS⟩ : ∃ S, dstr x = S := ⟨_, rfl⟩
  rw [hS] at HX0 HX1 ⊢
  obtain ⟨Y, hY⟩ : ∃ Y, dstr q = Y := ⟨_, rfl⟩
  rw [hY] at IH hqs HX1
  clear hqq hp hS hY hrr
  by_cases hq : q = 0
  · rw [decide_eq_true hq] at heq
    have HX := Lib.hid (HX0.out hq)
    clear IH HX0 HX1 hq
    go_enter Tryz.func62, Tryz.ntmps62
    go_wp2_with (first
      | (go_at_call 101; ((with_reducible refine (KC.out _).mono ?_); rintro e w1 ⟨rfl, hb1⟩; have B1 := Lib.hid (btr (bal (Below.refl _ w) _) hb1); clear hb1))
      | (go_at_call 102; ((with_reducible refine (KF.out _ (tab_on HT.out (bal B1.out _))).mono ?_); rintro e w2 ⟨rfl, hb2⟩; have Q2 := Row4.keep hb2 (Row4.new w1 _ _ _ _); obtain ⟨q0, q1, q2, q3, qf⟩ := Q2.parts; have B2 := Lib.hid (btr (bal B1.out _) hb2); clear hb2 qf)))
    go_ret
    exact ⟨by rw [HX.out]; rfl, B2.out⟩
  · rw [decide_eq_false hq] at heq
    have HX := Lib.hid (HX1.out hq)
    have KI := Lib.hid (IH.out hq)
    have hcc : (19 - (p.size : Int)) = ((19 - p.size : Nat) : Int) := by omega
    clear IH HX0 HX1 hq
    obtain ⟨Z, hZ⟩ : ∃ Z : ByteArray, (⟨(Lib.repeatL (⟨#[48]⟩ : ByteArray).data.toList (19 - p.size)).toArray⟩ : ByteArray) = Z := ⟨_, rfl⟩
    have hzs : Z.size = 19 - p.size := by
      rw [← hZ]
      show (Lib.repeatL [48] (19 - p.size)).toArray.size = _
      rw [repeat_replicate]; simp
    have KR : Hid (∀ W, Calls Tryz.prog 103 #[.string ⟨#[48]⟩, .int .i64 (19 - (p.size : Int))] W fun e w' => e = .returned (.string Z) ∧ Below W.heap.size W w') := Lib.hid (fun W => by
      rw [hcc, ← hZ]
      exact Tryz.strings_Repeat ⟨#[48]⟩ (19 - p.size) W (by omega) (by show 1 * _ ≤ _; omega))
    rw [hZ] at HX
    clear hcc hZ
    go_enter Tryz.func62, Tryz.ntmps62
    go_wp2_with (first
      | (go_at_call 101; ((with_reducible refine (KC.out _).mono ?_); rintro e w1 ⟨rfl, hb1⟩; have B1 := Lib.hid (btr (bal (Below.refl _ w) _) hb1); clear hb1))
      | (go_at_call 102; ((with_reducible refine (KF.out _ (tab_on HT.out (bal B1.out _))).mono ?_); rintro e w2 ⟨rfl, hb2⟩; have Q2 := Row4.keep hb2 (Row4.new w1 _ _ _ _); obtain ⟨q0, q1, q2, q3, qf⟩ := Q2.parts; have B2 := Lib.hid (btr (bal B1.out _) hb2); clear hb2 qf))
      | (go_at_call 62; ((with_reducible refine (KI.out _ B2.out).mono ?_); rintro e w3 ⟨rfl, hb3⟩; have B3 := Lib.hid (btr B2.out hb3); clear hb3))
      | (go_at_call 103; ((with_reducible refine (KR.out _).mono ?_); rintro e w4 ⟨rfl, hb4⟩; have B4 := Lib.hid (btr B3.out hb4); clear hb4)))
    go_ret
    exact ⟨by rw [← HX.out]; rfl, B4.out⟩
end
theorem pnat_any : ∀ (x : Nat), x < 2 ^ 256 → ∀ w, Tab w → Calls Tryz.prog 62 #[N4 x] w fun e w' => e = .returned (.string (dstr x)) ∧ Below w.heap.size w w' := by
  intro x
  induction x using Nat.strongRecOn with
  | ind x ih =>
    intro hx w hT
    exact pnat_core x hx w hT fun h W hW => ih (x / 10000000000000000000) (by omega) (by omega) W (tab_on hT hW)
/-- A whole number's decimals. -/
def jint (g : Bool) (x : Nat) : List UInt8 := (if g then [45] else []) ++ Lib.decDigits x
theorem jint_len (g : Bool) (x : Nat) (hx : x < 2 ^ 256) : (jint g x).length ≤ 79 := by
  unfold jint
  have := dec_len (k := 78) (r := x) (by decide) (by omega)
  rw [List.length_append]
  split <;> simp <;> omega
set_option maxRecDepth 100000 in
theorem pint_any (g : Bool) (x : Nat) (hx : x < 2 ^ 256) (w : World) (hT : Tab w) :
    Calls Tryz.prog 33 #[I5 g x] w fun e w' => e = .returned (.string (str (jint g x))) ∧ Below w.heap.size w w' := by
  have KN := Lib.hid (fun W (hW : Below w.heap.size w W) => pnat_any x hx W (tab_on hT hW))
  have hys := dstr_le hx
  have HX : Hid (str (jint g x) = if g = true then (⟨#[45]⟩ ++ dstr x : ByteArray) else dstr x) := Lib.hid (by
    unfold jint
    cases g
    · rfl
    · show str ([45] ++ Lib.decDigits x) = _
      rw [← str_app]; rfl)
  obtain ⟨S, hS⟩ : ∃ S, str (jint g x) = S := ⟨_, rfl⟩
  rw [hS] at HX ⊢
  obtain ⟨Y, hY⟩ : ∃ Y, dstr x = Y := ⟨_, rfl⟩
  rw [hY] at KN hys HX
  clear hS hY hx hT
  cases g
  all_goals
    go_enter Tryz.func33, Tryz.ntmps33
    go_wp2_with (go_at_call 62; ((with_reducible refine (KN.out _ (bal (Below.refl _ w) _)).mono ?_); rintro e w1 ⟨rfl, hb1⟩))
    go_ret
    exact ⟨by rw [HX.out]; rfl, btr (bal (Below.refl _ w) _) hb1⟩
end Go.Proofs.YtebfggiodhaahaaGreatDoor
end
section
namespace Go.Proofs.YtebfggiodhaahaaGreatDoor
open Go.RowKit Go.Shelf
set_option linter.unusedVariables false

/-- What stands in a list, piece by piece: commas, what stands ahead of an element, the element. -/
def jpre (f : Nat → List UInt8) (k : Nat) : List UInt8 := (if k = 0 then [] else [44]) ++ f k
def jpcs (f : Nat → List UInt8) (E : List (List UInt8)) : List (List UInt8) := E.zipIdx.map fun p => jpre f p.2 ++ p.1
theorem jpcs_len (f : Nat → List UInt8) (E : List (List UInt8)) : (jpcs f E).length = E.length := by unfold jpcs; simp
theorem jpcs_at {f : Nat → List UInt8} {E : List (List UInt8)} {k : Nat} {e : List UInt8} (h : E[k]? = some e) : (jpcs f E)[k]? = some (jpre f k ++ e) := by
  unfold jpcs
  rw [List.getElem?_map, List.getElem?_zipIdx, h]
  simp
def jkey (keys : List ByteArray) (k : Nat) : List UInt8 := jq (keys.getD k ⟨#[]⟩).data.toList ++ [58]
def jO (o : Own) (E : List (List UInt8)) : List UInt8 :=
  if o.kind = 2 then (if o.bits = 0 then [102, 97, 108, 115, 101] else [116, 114, 117, 101])
  else if o.kind = 3 then jint o.g o.x
  else if o.kind = 4 then ptx o.bits.toNat
  else if o.kind = 5 then jq o.text.data.toList
  else if o.kind = 7 then [91] ++ (jpcs (fun _ => []) E).flatten ++ [93]
  else if o.kind = 8 then [123] ++ (jpcs (jkey o.keys) E).flatten ++ [125]
  else [110, 117, 108, 108]
def jencT : VT → List UInt8
  | .mk o kids => jO o (kids.map fun k => jencT k)
theorem jencT_mk (o : Own) (kids : List VT) : jencT (.mk o kids) = jO o (kids.map jencT) := by rw [jencT]
section
variable {o : Own} {E : List (List UInt8)}
theorem jO_1 (h : o.kind = 1) : jO o E = [110, 117, 108, 108] := by
  unfold jO
  rw [if_neg (by omega), if_neg (by omega), if_neg (by omega), if_neg (by omega), if_neg (by omega), if_neg (by omega)]
theorem jO_2 (h : o.kind = 2) : jO o E = if o.bits = 0 then [102, 97, 108, 115, 101] else [116, 114, 117, 101] := by unfold jO; rw [if_pos h]
theorem jO_3 (h : o.kind = 3) : jO o E = jint o.g o.x := by unfold jO; rw [if_neg (by omega), if_pos h]
theorem jO_4 (h : o.kind = 4) : jO o E = ptx o.bits.toNat := by unfold jO; rw [if_neg (by omega), if_neg (by omega), if_pos h]
theorem jO_5 (h : o.kind = 5) : jO o E = jq o.text.data.toList := by unfold jO; rw [if_neg (by omega), if_neg (by omega), if_neg (by omega), if_pos h]
theorem jO_7 (h : o.kind = 7) : jO o E = [91] ++ (jpcs (fun _ => []) E).flatten ++ [93] := by unfold jO; rw [if_neg (by omega), if_neg (by omega), if_neg (by omega), if_neg (by omega), if_pos h]
theorem jO_8 (h : o.kind = 8) : jO o E = [123] ++ (jpcs (jkey o.keys) E).flatten ++ [125] := by unfold jO; rw [if_neg (by omega), if_neg (by omega), if_neg (by omega), if_neg (by omega), if_neg (by omega), if_pos h]
end
/-- A value that lay in memory ahead of it all is appended to a row of bytes. -/
def JVs (t : VT) (W0 : World) : Prop := ∀ w, Below W0.heap.size W0 w → ∀ (base : Nat) (v : Value) (l : List UInt8), W0.heap.size ≤ base → base ≤ w.heap.size → Bo w base v l → l.length + 30000 * t.depth ≤ 700000 →
  Calls Tryz.prog 16 #[v, t.val] w fun e w' => ∃ v' r, e = .returned v' ∧ Bo w' base v' r ∧ Onto w w' v v' ∧ Lim l (jencT t) r (30000 * t.depth)
end Go.Proofs.YtebfggiodhaahaaGreatDoor
end
section
namespace Go.Proofs.YtebfggiodhaahaaGreatDoor
open Go.RowKit Go.Shelf
set_option linter.unusedVariables false

set_option maxRecDepth 100000 in
set_option maxHeartbeats 8000000 in
theorem jitems_7 (g : Bool) (x0 x1 x2 x3 bi : Int) (s : ByteArray) (la : Option Addr) (lc : Nat) (ka : Option Addr) (kc : Nat) (m : Nat) (kids : List VT) (bb off D : Nat) (W0 : World) (hK : Kids W0 la kids bb off) (hD : ∀ t ∈ kids, t.depth ≤ D) (hD16 : D ≤ 15) (hn : kids.length ≤ 1000) (av : ∀ t ∈ kids, JVs t W0)
    (w : World) (hw : Below W0.heap.size W0 w) (base : Nat) (v : Value) (l : List UInt8) (hb0 : W0.heap.size ≤ base) (hbase : base ≤ w.heap.size) (h : Bo w base v l) (hl0 : 0 < l.length) (hl : l.length ≤ 790000) :
    Calls Tryz.prog 36 #[v, V10 7 g x0 x1 x2 x3 bi s la kids.length lc ka m kc] w fun e w' => ∃ v' r, e = .returned v' ∧ Bo w' base v' r ∧ 0 < r.length ∧ r.length ≤ 800000 ∧ Onto w w' v v' ∧ Lim l (jpcs (fun _ => []) (kids.map jencT)).flatten r (30000 * D + 24600) := by
  have HK := Lib.hid hK; have HD := Lib.hid hD; have HAV := Lib.hid av; have HW := Lib.hid hw
  have HB0 := Lib.hid h
  obtain ⟨E, hE⟩ : ∃ E, jpcs (fun _ => []) (kids.map jencT) = E := ⟨_, rfl⟩
  have HE : Hid (∀ (k : Nat) (t : VT), kids[k]? = some t → E[k]? = some (jpre (fun _ => []) k ++ jencT t)) := fun k t ht => by rw [← hE]; exact jpcs_at (by rw [List.getElem?_map, ht]; rfl)
  have HEL : Hid (E.length = kids.length) := by show _ = _; rw [← hE, jpcs_len, List.length_map]
  rw [hE]
  obtain ⟨M, hM⟩ : ∃ M, 30000 * D + 24600 = M := ⟨_, rfl⟩
  have HM := Lib.hid hM
  rw [hM]
  have R0 := Lib.hid (Row10.new w (.int .i64 7) (.bool g) (.int .u64 x0) (.int .u64 x1) (.int .u64 x2) (.int .u64 x3) (.int .u64 bi) (.string s) (.slice la kids.length lc) (.slice ka m kc))
  have N0 : Hid (some w.heap.size ≠ v.ownBlock) := Lib.hid (h.away (Or.inl (Nat.le_refl _)))
  have HL0 := Lib.hid hl0; have HL := Lib.hid hl
  clear hK hD av hw h hE hM hl0 hl
  go_enter Tryz.func36, Tryz.ntmps36
  go_wp2
  go_loopw [0, 5, 6, 10] (fun bv _ _ iv wr => ∃ (k : Nat) (r : List UInt8), k ≤ kids.length ∧ iv = .int .i64 k ∧ Hid (Bo wr base bv r) ∧ Hid (Onto w wr v bv) ∧ Hid (Lim l (E.take k).flatten r M) ∧ Hid (0 < r.length ∧ r.length ≤ 800000) ∧ Hid (Row10 wr w.heap.size (.int .i64 7) (.bool g) (.int .u64 x0) (.int .u64 x1) (.int .u64 x2) (.int .u64 x3) (.int .u64 bi) (.string s) (.slice la kids.length lc) (.slice ka m kc)) ∧ Hid (some w.heap.size ≠ bv.ownBlock)) (fun _ _ _ i _ => kids.length - (intOf i).toNat)
  case atStart => exact ⟨0, l, Nat.zero_le _, rfl, (by show Bo _ _ _ _; exact Bo.alloc HB0.out _), (by show Onto _ _ _ _; exact Onto.of (bal (Below.refl _ _) _) v), (by show Lim _ _ _ _; rw [List.take_zero, List.flatten_nil]; have := Lim.leaf (l := l) (f := []) (M := M) (Nat.zero_le _); rwa [List.append_nil] at this), (by show _ ∧ _; have := HL0.out; have := HL.out; omega), R0, N0⟩
  case round =>
    obtain ⟨k, r, hk, rfl, HB, HO, HLm, HR0, RV, NV⟩ := hrel
    clear R0 N0
    rename World => wr
    obtain ⟨gg, cap, rfl, _⟩ := HB.out.some HR0.out.1
    have hws := HO.out.size
    have HBW : Hid (Below W0.heap.size W0 wr) := below_seq HW.out (below_le (HO.out.frame hbase HB0.out) hb0)
    obtain ⟨N, hN⟩ : ∃ N, r.length = N := ⟨_, rfl⟩
    have HN := Lib.hid hN
    rw [hN] at HB HO NV
    rw [hN]
    clear hN
    obtain ⟨p0, p1, p2, p3, p4, p5, p6, p7, p8, p9⟩ := RV.out.parts
    by_cases hlt : k < kids.length
    · obtain ⟨t, ht, hm⟩ := kid_at hlt
      have hr := (HK.out.cells k t ht).keep HBW.out
      obtain rfl : la = some ⟨bb, off, none⟩ := HK.out.la (by omega)
      have KV := Lib.hid (HAV.out t hm)
      obtain ⟨dt, hdt⟩ : ∃ dt, 30000 * t.depth = dt := ⟨_, rfl⟩
      have HDT : Hid (dt + 24600 ≤ M ∧ dt ≤ 450000) := Lib.hid (by have := HD.out t hm; have := HM.out; omega)
      unfold JVs at KV
      rw [hdt] at KV
      obtain ⟨Et, hEt⟩ : ∃ Et, jencT t = Et := ⟨_, rfl⟩
      have HEt : Hid (E[k]? = some (jpre (fun _ => []) k ++ Et)) := by show _ = _; rw [← hEt]; exact HE.out k t ht
      rw [hEt] at KV
      obtain ⟨o2, l2⟩ := t
      obtain ⟨kd2, g2, x2', b2, s2, la2, lc2, ka2, kc2, ks2⟩ := o2
      simp only [VT.val, VT.cells, VT.o_mk, VT.kids_mk] at KV
      obtain ⟨c0, c1, c2, c3, c4, c5, c6, c7, c8, c9⟩ := hr.ten
      clear hr ht hm hEt hdt
      have hlt2 : (k : Int) < (kids.length : Int) := by omega
      by_cases hbig : 65536 < N
      · have hbig2 : (65536 : Int) < (N : Int) := by omega
        go_wp2
        go_ret
        refine ⟨_, r, rfl, Bo.alloc HB.out _, HR0.out.1, HR0.out.2, HO.out.below (bal (Below.refl _ _) _), ?_⟩
        rw [flat_rest E k]
        exact HLm.out.stop (by rw [HN.out]; exact hbig) _
      · have hbig2 : ¬ (65536 : Int) < (N : Int) := by omega
        have HB1 := Lib.hid (Bo.alloc HB.out (.cells #[.int .i64 kd2, .bool g2, .int .u64 (lb 0 x2'), .int .u64 (lb 1 x2'), .int .u64 (lb 2 x2'), .int .u64 (lb 3 x2'), .int .u64 b2, .string s2, .slice la2 l2.length lc2, .slice ka2 ks2.length kc2] 32))
        have HO1 : Hid (Onto wr (wr.alloc (.cells #[.int .i64 kd2, .bool g2, .int .u64 (lb 0 x2'), .int .u64 (lb 1 x2'), .int .u64 (lb 2 x2'), .int .u64 (lb 3 x2'), .int .u64 b2, .string s2, .slice la2 l2.length lc2, .slice ka2 ks2.length kc2] 32)) (.slice (some ⟨gg, 0, none⟩) N cap) (.slice (some ⟨gg, 0, none⟩) N cap)) := Lib.hid (Onto.of (bal (Below.refl _ _) _) _)
        have RV1 := Lib.hid (Row10.alloc RV.out (.cells #[.int .i64 kd2, .bool g2, .int .u64 (lb 0 x2'), .int .u64 (lb 1 x2'), .int .u64 (lb 2 x2'), .int .u64 (lb 3 x2'), .int .u64 b2, .string s2, .slice la2 l2.length lc2, .slice ka2 ks2.length kc2] 32))
        have RE1 := Lib.hid (Row10.new wr (.int .i64 kd2) (.bool g2) (.int .u64 (lb 0 x2')) (.int .u64 (lb 1 x2')) (.int .u64 (lb 2 x2')) (.int .u64 (lb 3 x2')) (.int .u64 b2) (.string s2) (.slice la2 l2.length lc2) (.slice ka2 ks2.length kc2))
        have NE : Hid (some wr.heap.size ≠ (Value.slice (some ⟨gg, 0, none⟩) N cap).ownBlock) := Lib.hid (HB.out.away (Or.inl (Nat.le_refl _)))
        have LV : w.heap.size < wr.heap.size := RV.out.lt
        by_cases hk0 : k = 0
        · subst hk0
          rw [show off + 0 * 10 = off by omega] at c0 c1 c2 c3 c4 c5 c6 c7 c8 c9
          obtain ⟨e0, e1, e2, e3, e4, e5, e6, e7, e8, e9⟩ := RE1.out.parts
          obtain ⟨PRE, hPRE⟩ : ∃ P : List UInt8, [] = P := ⟨_, rfl⟩
          have HPRE : Hid (r = r ++ PRE) := Lib.hid (by rw [← hPRE]; (first | done | simp))
          have HPL : Hid (PRE.length ≤ 24581) := Lib.hid (by rw [← hPRE]; simp)
          have HJP : Hid (jpre (fun _ => []) 0 = PRE) := Lib.hid (by show _ = _; rw [← hPRE]; simp [jpre])
          clear hPRE
          go_wp2_with (first
            | (go_at_call 16; ((with_reducible refine (KV.out _ (below_seq HW.out (below_le (((HO.out.trans HO1.out)).frame hbase HB0.out) hb0)) base _ r hb0 (by simp; omega) HB1.out (by rw [HPRE.out, List.length_append, HN.out]; have := HDT.out; have := HPL.out; omega)).mono ?_); rintro e w9 ⟨v9, r9, rfl, B9, O9, L9⟩; have NW := Lib.hid NV.out)))
          go_roundw
          case rel =>
            have HP : Hid (Lim r (jpre (fun _ => []) 0 ++ Et) r9 M) := Lib.hid (by
              rw [HJP.out]
              rw [HPRE.out] at L9
              exact L9.ahead (by rw [HN.out]; omega) (by have := HDT.out; have := HPL.out; omega))
            exact ⟨0 + 1, r9, by omega, by go_num, B9, (HO.out.trans HO1.out).trans O9, (by show Lim _ _ _ _; rw [flat_next HEt.out]; exact HLm.out.next (by rw [HN.out]; omega) HP.out (Nat.le_refl _)), (by show _ ∧ _; exact ⟨L9.pos (by rw [HPRE.out, List.length_append]; have := HR0.out.1; omega), by have h1 := L9.2.2; have := HDT.out.2; have := HPL.out; rw [HPRE.out, List.length_append] at h1; rw [HN.out] at h1; omega⟩), (by show Row10 _ _ _ _ _ _ _ _ _ _ _ _; exact RV1.out.grown O9.grown NW.out), (by show _ ≠ _; exact O9.apart RV1.out.lt NW.out)⟩
          case measure => simp [intOf]; omega
        · have hz : (0 : Int) < (k : Int) := by omega
          obtain ⟨PRE, hPRE⟩ : ∃ P : List UInt8, [44] = P := ⟨_, rfl⟩
          have HPRE : Hid ((r ++ [44]) = r ++ PRE) := Lib.hid (by rw [← hPRE]; (first | done | simp))
          have HPL : Hid (PRE.length ≤ 24581) := Lib.hid (by rw [← hPRE]; simp)
          have HJP : Hid (jpre (fun _ => []) k = PRE) := Lib.hid (by show _ = _; rw [← hPRE]; simp [jpre, show ¬ k = 0 by omega])
          clear hPRE
          go_wp2_with (first
            | (at_builtin; refine wpList_append_bytes _ rfl (.tmp 20) (.tmp 21) rfl base (.slice (some ⟨gg, 0, none⟩) N cap) r rfl (Bo.alloc HB1.out _) _ 1 1 [44] rfl rfl (by decide) (LitB.of (hnewB (by simp)) rfl) (N + 1) (by rw [HN.out]) (by omega) (by simp; omega) ?_; intro q2 cap2 w2 B2 O2; have HB2 := Lib.hid B2; have HO2 := Lib.hid ((HO1.out.below (bal (Below.refl _ _) _)).trans O2); have RV2 := Lib.hid (Row10.grown (RV1.out.alloc _) O2.grown NV.out); have RE2 := Lib.hid (Row10.grown (RE1.out.alloc _) O2.grown NE.out); have NV2 := Lib.hid (O2.apart (RV1.out.alloc _).lt NV.out); have NE2 := Lib.hid (O2.apart (RE1.out.alloc _).lt NE.out); have hs2 : wr.heap.size ≤ w2.heap.size := (by have h9 := O2.size; simp at h9; omega); obtain ⟨p0, p1, p2, p3, p4, p5, p6, p7, p8, p9⟩ := RV2.out.parts; obtain ⟨e0, e1, e2, e3, e4, e5, e6, e7, e8, e9⟩ := RE2.out.parts; clear B2 O2)
            | (go_at_call 16; ((with_reducible refine (KV.out _ (below_seq HW.out (below_le (((HO.out.trans HO2.out)).frame hbase HB0.out) hb0)) base _ (r ++ [44]) hb0 (by omega) HB2.out (by rw [HPRE.out, List.length_append, HN.out]; have := HDT.out; have := HPL.out; omega)).mono ?_); rintro e w9 ⟨v9, r9, rfl, B9, O9, L9⟩; have NW := Lib.hid NV2.out)))
          go_roundw
          case rel =>
            have HP : Hid (Lim r (jpre (fun _ => []) k ++ Et) r9 M) := Lib.hid (by
              rw [HJP.out]
              rw [HPRE.out] at L9
              exact L9.ahead (by rw [HN.out]; omega) (by have := HDT.out; have := HPL.out; omega))
            exact ⟨k + 1, r9, by omega, by go_num, B9, (HO.out.trans HO2.out).trans O9, (by show Lim _ _ _ _; rw [flat_next HEt.out]; exact HLm.out.next (by rw [HN.out]; omega) HP.out (Nat.le_refl _)), (by show _ ∧ _; exact ⟨L9.pos (by rw [HPRE.out, List.length_append]; have := HR0.out.1; omega), by have h1 := L9.2.2; have := HDT.out.2; have := HPL.out; rw [HPRE.out, List.length_append] at h1; rw [HN.out] at h1; omega⟩), (by show Row10 _ _ _ _ _ _ _ _ _ _ _ _; exact RV2.out.grown O9.grown NW.out), (by show _ ≠ _; exact O9.apart RV2.out.lt NW.out)⟩
          case measure => simp [intOf]; omega
    · have hge : ¬ (k : Int) < (kids.length : Int) := by omega
      have hkk : k = kids.length := by omega
      go_wp2
      go_ret
      refine ⟨_, rfl, r, HB.out, HR0.out.1, HR0.out.2, HO.out, ?_⟩
      have := HLm.out
      rw [List.take_of_length_le (by rw [HEL.out]; omega)] at this
      exact this
set_option maxRecDepth 100000 in
set_option maxHeartbeats 8000000 in
theorem jitems_8 (g : Bool) (x0 x1 x2 x3 bi : Int) (s : ByteArray) (la : Option Addr) (lc : Nat) (ka : Option Addr) (kc : Nat) (keys : List ByteArray) (kb koff : Nat) (kids : List VT) (bb off D : Nat) (W0 : World) (hK : Kids W0 la kids bb off) (hKK : KeysL W0 ka keys kb koff) (hkz : ∀ s ∈ keys, s.size ≤ 4096) (hlen : keys.length = kids.length) (hD : ∀ t ∈ kids, t.depth ≤ D) (hD16 : D ≤ 15) (hn : kids.length ≤ 1000) (av : ∀ t ∈ kids, JVs t W0)
    (w : World) (hw : Below W0.heap.size W0 w) (base : Nat) (v : Value) (l : List UInt8) (hb0 : W0.heap.size ≤ base) (hbase : base ≤ w.heap.size) (h : Bo w base v l) (hl0 : 0 < l.length) (hl : l.length ≤ 790000) :
    Calls Tryz.prog 36 #[v, V10 8 g x0 x1 x2 x3 bi s la kids.length lc ka keys.length kc] w fun e w' => ∃ v' r, e = .returned v' ∧ Bo w' base v' r ∧ 0 < r.length ∧ r.length ≤ 800000 ∧ Onto w w' v v' ∧ Lim l (jpcs (jkey keys) (kids.map jencT)).flatten r (30000 * D + 24600) := by
  have HK := Lib.hid hK; have HD := Lib.hid hD; have HAV := Lib.hid av; have HW := Lib.hid hw
  have HKK := Lib.hid hKK; have HKZ := Lib.hid hkz
  obtain ⟨m, hm⟩ : ∃ m, keys.length = m := ⟨_, rfl⟩
  have HMM := Lib.hid hm
  have HMN := Lib.hid hlen
  rw [hm]
  clear hKK hkz hm hlen
  have HB0 := Lib.hid h
  obtain ⟨E, hE⟩ : ∃ E, jpcs (jkey keys) (kids.map jencT) = E := ⟨_, rfl⟩
  have HE : Hid (∀ (k : Nat) (t : VT), kids[k]? = some t → E[k]? = some (jpre (jkey keys) k ++ jencT t)) := fun k t ht => by rw [← hE]; exact jpcs_at (by rw [List.getElem?_map, ht]; rfl)
  have HEL : Hid (E.length = kids.length) := by show _ = _; rw [← hE, jpcs_len, List.length_map]
  rw [hE]
  obtain ⟨M, hM⟩ : ∃ M, 30000 * D + 24600 = M := ⟨_, rfl⟩
  have HM := Lib.hid hM
  rw [hM]
  have R0 := Lib.hid (Row10.new w (.int .i64 8) (.bool g) (.int .u64 x0) (.int .u64 x1) (.int .u64 x2) (.int .u64 x3) (.int .u64 bi) (.string s) (.slice la kids.length lc) (.slice ka m kc))
  have N0 : Hid (some w.heap.size ≠ v.ownBlock) := Lib.hid (h.away (Or.inl (Nat.le_refl _)))
  have HL0 := Lib.hid hl0; have HL := Lib.hid hl
  clear hK hD av hw h hE hM hl0 hl
  go_enter Tryz.func36, Tryz.ntmps36
  go_wp2
  go_loopw [0, 5, 6, 10] (fun bv _ _ iv wr => ∃ (k : Nat) (r : List UInt8), k ≤ kids.length ∧ iv = .int .i64 k ∧ Hid (Bo wr base bv r) ∧ Hid (Onto w wr v bv) ∧ Hid (Lim l (E.take k).flatten r M) ∧ Hid (0 < r.length ∧ r.length ≤ 800000) ∧ Hid (Row10 wr w.heap.size (.int .i64 8) (.bool g) (.int .u64 x0) (.int .u64 x1) (.int .u64 x2) (.int .u64 x3) (.int .u64 bi) (.string s) (.slice la kids.length lc) (.slice ka m kc)) ∧ Hid (some w.heap.size ≠ bv.ownBlock)) (fun _ _ _ i _ => kids.length - (intOf i).toNat)
  case atStart => exact ⟨0, l, Nat.zero_le _, rfl, (by show Bo _ _ _ _; exact Bo.alloc HB0.out _), (by show Onto _ _ _ _; exact Onto.of (bal (Below.refl _ _) _) v), (by show Lim _ _ _ _; rw [List.take_zero, List.flatten_nil]; have := Lim.leaf (l := l) (f := []) (M := M) (Nat.zero_le _); rwa [List.append_nil] at this), (by show _ ∧ _; have := HL0.out; have := HL.out; omega), R0, N0⟩
  case round =>
    obtain ⟨k, r, hk, rfl, HB, HO, HLm, HR0, RV, NV⟩ := hrel
    clear R0 N0
    rename World => wr
    obtain ⟨gg, cap, rfl, _⟩ := HB.out.some HR0.out.1
    have hws := HO.out.size
    have HBW : Hid (Below W0.heap.size W0 wr) := below_seq HW.out (below_le (HO.out.frame hbase HB0.out) hb0)
    obtain ⟨N, hN⟩ : ∃ N, r.length = N := ⟨_, rfl⟩
    have HN := Lib.hid hN
    rw [hN] at HB HO NV
    rw [hN]
    clear hN
    obtain ⟨p0, p1, p2, p3, p4, p5, p6, p7, p8, p9⟩ := RV.out.parts
    by_cases hlt : k < kids.length
    · obtain ⟨t, ht, hm⟩ := kid_at hlt
      have hr := (HK.out.cells k t ht).keep HBW.out
      obtain rfl : la = some ⟨bb, off, none⟩ := HK.out.la (by omega)
      have KV := Lib.hid (HAV.out t hm)
      obtain ⟨dt, hdt⟩ : ∃ dt, 30000 * t.depth = dt := ⟨_, rfl⟩
      have HDT : Hid (dt + 24600 ≤ M ∧ dt ≤ 450000) := Lib.hid (by have := HD.out t hm; have := HM.out; omega)
      unfold JVs at KV
      rw [hdt] at KV
      obtain ⟨Et, hEt⟩ : ∃ Et, jencT t = Et := ⟨_, rfl⟩
      have HEt : Hid (E[k]? = some (jpre (jkey keys) k ++ Et)) := by show _ = _; rw [← hEt]; exact HE.out k t ht
      rw [hEt] at KV
      obtain ⟨o2, l2⟩ := t
      obtain ⟨kd2, g2, x2', b2, s2, la2, lc2, ka2, kc2, ks2⟩ := o2
      simp only [VT.val, VT.cells, VT.o_mk, VT.kids_mk] at KV
      obtain ⟨c0, c1, c2, c3, c4, c5, c6, c7, c8, c9⟩ := hr.ten
      clear hr ht hm hEt hdt
      have hlt2 : (k : Int) < (kids.length : Int) := by omega
      by_cases hbig : 65536 < N
      · have hbig2 : (65536 : Int) < (N : Int) := by omega
        go_wp2
        go_ret
        refine ⟨_, r, rfl, Bo.alloc HB.out _, HR0.out.1, HR0.out.2, HO.out.below (bal (Below.refl _ _) _), ?_⟩
        rw [flat_rest E k]
        exact HLm.out.stop (by rw [HN.out]; exact hbig) _
      · have hbig2 : ¬ (65536 : Int) < (N : Int) := by omega
        have HB1 := Lib.hid (Bo.alloc HB.out (.cells #[.int .i64 kd2, .bool g2, .int .u64 (lb 0 x2'), .int .u64 (lb 1 x2'), .int .u64 (lb 2 x2'), .int .u64 (lb 3 x2'), .int .u64 b2, .string s2, .slice la2 l2.length lc2, .slice ka2 ks2.length kc2] 32))
        have HO1 : Hid (Onto wr (wr.alloc (.cells #[.int .i64 kd2, .bool g2, .int .u64 (lb 0 x2'), .int .u64 (lb 1 x2'), .int .u64 (lb 2 x2'), .int .u64 (lb 3 x2'), .int .u64 b2, .string s2, .slice la2 l2.length lc2, .slice ka2 ks2.length kc2] 32)) (.slice (some ⟨gg, 0, none⟩) N cap) (.slice (some ⟨gg, 0, none⟩) N cap)) := Lib.hid (Onto.of (bal (Below.refl _ _) _) _)
        have RV1 := Lib.hid (Row10.alloc RV.out (.cells #[.int .i64 kd2, .bool g2, .int .u64 (lb 0 x2'), .int .u64 (lb 1 x2'), .int .u64 (lb 2 x2'), .int .u64 (lb 3 x2'), .int .u64 b2, .string s2, .slice la2 l2.length lc2, .slice ka2 ks2.length kc2] 32))
        have RE1 := Lib.hid (Row10.new wr (.int .i64 kd2) (.bool g2) (.int .u64 (lb 0 x2')) (.int .u64 (lb 1 x2')) (.int .u64 (lb 2 x2')) (.int .u64 (lb 3 x2')) (.int .u64 b2) (.string s2) (.slice la2 l2.length lc2) (.slice ka2 ks2.length kc2))
        have NE : Hid (some wr.heap.size ≠ (Value.slice (some ⟨gg, 0, none⟩) N cap).ownBlock) := Lib.hid (HB.out.away (Or.inl (Nat.le_refl _)))
        have LV : w.heap.size < wr.heap.size := RV.out.lt
        obtain ⟨key, hkey, hmk⟩ := key_at (keys := keys) (k := k) (by rw [HMN.out]; exact hlt)
        obtain rfl : ka = some ⟨kb, koff, none⟩ := HKK.out.ka (by rw [HMN.out]; omega)
        have hkm : (k : Int) < (m : Int) := by have := HMM.out; have := HMN.out; omega
        have hks := HKZ.out key hmk
        have HKY := Lib.hid (HKK.out.cells k key hkey)
        have HQL := Lib.hid (jq_len key.data.toList)
        have HQB := Lib.hid (bytes_len key)
        have HFK : Hid (jkey keys k = jq key.data.toList ++ [58]) := by show _ = _; unfold jkey; rw [List.getD_eq_getElem?_getD, hkey]; rfl
        have ck := cell_keep (bal (Below.refl _ wr) (.cells #[.int .i64 kd2, .bool g2, .int .u64 (lb 0 x2'), .int .u64 (lb 1 x2'), .int .u64 (lb 2 x2'), .int .u64 (lb 3 x2'), .int .u64 b2, .string s2, .slice la2 l2.length lc2, .slice ka2 ks2.length kc2] 32)) (cell_keep HBW.out HKY.out)
        obtain ⟨QK, hQK⟩ : ∃ QK, jq key.data.toList = QK := ⟨_, rfl⟩
        rw [hQK] at HQL HFK
        have KT : Hid (∀ W, ∀ (b1 : Value) (r1 : List UInt8), base ≤ W.heap.size → Bo W base b1 r1 → r1.length ≤ 70000 → Calls Tryz.prog 35 #[b1, .string key] W fun e w' => ∃ v', e = .returned v' ∧ Bo w' base v' (r1 ++ QK) ∧ Onto W w' b1 v') := Lib.hid (fun W b1 r1 h1 h2 h3 => by rw [← hQK]; exact atext_any key (by omega) b1 r1 base W h1 h2 (by omega))
        clear hkey hmk hQK
        by_cases hk0 : k = 0
        · subst hk0
          rw [show off + 0 * 10 = off by omega] at c0 c1 c2 c3 c4 c5 c6 c7 c8 c9
          rw [Nat.add_zero] at ck
          obtain ⟨N4, hN4⟩ : ∃ n4 : Nat, N + 0 + QK.length + 1 = n4 := ⟨_, rfl⟩
          have HN4 := Lib.hid hN4
          clear hN4
          obtain ⟨PRE, hPRE⟩ : ∃ P : List UInt8, (QK ++ [58]) = P := ⟨_, rfl⟩
          have HPRE : Hid (((r ++ QK) ++ [58]) = r ++ PRE) := Lib.hid (by rw [← hPRE]; (first | done | simp))
          have HPL : Hid (PRE.length ≤ 24581) := Lib.hid (by rw [← hPRE]; have := HQL.out; have := HQB.out; simp; omega)
          have HJP : Hid (jpre (jkey keys) 0 = PRE) := Lib.hid (by show _ = _; rw [← hPRE]; unfold jpre; rw [HFK.out]; simp)
          clear hPRE
          go_wp2_with (first
            | (go_at_call 35; ((with_reducible refine (KT.out _ (.slice (some ⟨gg, 0, none⟩) N cap) r (by simp; omega) HB1.out (by rw [HN.out]; omega)).mono ?_); rintro e w3 ⟨v3, rfl, B3, O3⟩; have HB3 := Lib.hid B3; have HO3 := Lib.hid (HO1.out.trans O3); have RV3 := Lib.hid (Row10.grown RV1.out O3.grown NV.out); have RE3 := Lib.hid (Row10.grown RE1.out O3.grown NE.out); have NV3 := Lib.hid (O3.apart RV1.out.lt NV.out); have NE3 := Lib.hid (O3.apart RE1.out.lt NE.out); have hs3 : wr.heap.size ≤ w3.heap.size := (by have h9 := O3.size; (first | omega | (simp at h9; omega))); clear B3 O3))
            | (at_builtin; refine wpList_append_bytes _ rfl (.tmp 32) (.tmp 33) rfl base v3 (r ++ QK) rfl (Bo.alloc HB3.out _) _ 1 1 [58] rfl rfl (by decide) (LitB.of (hnewB (by simp)) rfl) N4 (by have := HN.out; have := HN4.out; simp only [List.length_append]; omega) (by have := HN4.out; have := HQL.out; have := HQB.out; omega) (by simp; omega) ?_; intro q4 cap4 w4 B4 O4; have HB4 := Lib.hid B4; have HO4 := Lib.hid ((HO3.out.below (bal (Below.refl _ _) _)).trans O4); have RV4 := Lib.hid (Row10.grown (RV3.out.alloc _) O4.grown NV3.out); have RE4 := Lib.hid (Row10.grown (RE3.out.alloc _) O4.grown NE3.out); have NV4 := Lib.hid (O4.apart (RV3.out.alloc _).lt NV3.out); have hs4 : wr.heap.size ≤ w4.heap.size := (by have h9 := O4.size; simp at h9; omega); obtain ⟨e0, e1, e2, e3, e4, e5, e6, e7, e8, e9⟩ := RE4.out.parts; clear B4 O4)
            | (go_at_call 16; ((with_reducible refine (KV.out _ (below_seq HW.out (below_le (((HO.out.trans HO4.out)).frame hbase HB0.out) hb0)) base _ ((r ++ QK) ++ [58]) hb0 (by omega) HB4.out (by rw [HPRE.out, List.length_append, HN.out]; have := HDT.out; have := HPL.out; omega)).mono ?_); rintro e w9 ⟨v9, r9, rfl, B9, O9, L9⟩; have NW := Lib.hid NV4.out)))
          go_roundw
          case rel =>
            have HP : Hid (Lim r (jpre (jkey keys) 0 ++ Et) r9 M) := Lib.hid (by
              rw [HJP.out]
              rw [HPRE.out] at L9
              exact L9.ahead (by rw [HN.out]; omega) (by have := HDT.out; have := HPL.out; omega))
            exact ⟨0 + 1, r9, by omega, by go_num, B9, (HO.out.trans HO4.out).trans O9, (by show Lim _ _ _ _; rw [flat_next HEt.out]; exact HLm.out.next (by rw [HN.out]; omega) HP.out (Nat.le_refl _)), (by show _ ∧ _; exact ⟨L9.pos (by rw [HPRE.out, List.length_append]; have := HR0.out.1; omega), by have h1 := L9.2.2; have := HDT.out.2; have := HPL.out; rw [HPRE.out, List.length_append] at h1; rw [HN.out] at h1; omega⟩), (by show Row10 _ _ _ _ _ _ _ _ _ _ _ _; exact RV4.out.grown O9.grown NW.out), (by show _ ≠ _; exact O9.apart RV4.out.lt NW.out)⟩
          case measure => simp [intOf]; omega
        · have hz : (0 : Int) < (k : Int) := by omega
          obtain ⟨N4, hN4⟩ : ∃ n4 : Nat, N + 1 + QK.length + 1 = n4 := ⟨_, rfl⟩
          have HN4 := Lib.hid hN4
          clear hN4
          have NK : Hid (some kb ≠ (Value.slice (some ⟨gg, 0, none⟩) N cap).ownBlock) := Lib.hid (own_below HB.out (by have := cell_lt HKY.out; simp at this; omega))
          obtain ⟨PRE, hPRE⟩ : ∃ P : List UInt8, ([44] ++ (QK ++ [58])) = P := ⟨_, rfl⟩
          have HPRE : Hid ((((r ++ [44]) ++ QK) ++ [58]) = r ++ PRE) := Lib.hid (by rw [← hPRE]; (first | done | simp))
          have HPL : Hid (PRE.length ≤ 24581) := Lib.hid (by rw [← hPRE]; have := HQL.out; have := HQB.out; simp; omega)
          have HJP : Hid (jpre (jkey keys) k = PRE) := Lib.hid (by show _ = _; rw [← hPRE]; unfold jpre; rw [HFK.out]; simp [show ¬ k = 0 by omega])
          clear hPRE
          go_wp2_with (first
            | (at_builtin; refine wpList_append_bytes _ rfl (.tmp 20) (.tmp 21) rfl base (.slice (some ⟨gg, 0, none⟩) N cap) r rfl (Bo.alloc HB1.out _) _ 1 1 [44] rfl rfl (by decide) (LitB.of (hnewB (by simp)) rfl) (N + 1) (by rw [HN.out]) (by omega) (by simp; omega) ?_; intro q2 cap2 w2 B2 O2; have HB2 := Lib.hid B2; have HO2 := Lib.hid ((HO1.out.below (bal (Below.refl _ _) _)).trans O2); have RV2 := Lib.hid (Row10.grown (RV1.out.alloc _) O2.grown NV.out); have RE2 := Lib.hid (Row10.grown (RE1.out.alloc _) O2.grown NE.out); have NV2 := Lib.hid (O2.apart (RV1.out.alloc _).lt NV.out); have NE2 := Lib.hid (O2.apart (RE1.out.alloc _).lt NE.out); have hs2 : wr.heap.size ≤ w2.heap.size := (by have h9 := O2.size; simp at h9; omega); obtain ⟨p0, p1, p2, p3, p4, p5, p6, p7, p8, p9⟩ := RV2.out.parts; obtain ⟨e0, e1, e2, e3, e4, e5, e6, e7, e8, e9⟩ := RE2.out.parts; have ck := O2.cell (cell_keep (bal (Below.refl _ _) _) ck) NK.out; clear B2 O2)
            | (go_at_call 35; ((with_reducible refine (KT.out _ (.slice (some ⟨q2, 0, none⟩) (N + 1) cap2) (r ++ [44]) (by omega) HB2.out (by rw [List.length_append, HN.out]; simp; omega)).mono ?_); rintro e w3 ⟨v3, rfl, B3, O3⟩; have HB3 := Lib.hid B3; have HO3 := Lib.hid (HO2.out.trans O3); have RV3 := Lib.hid (Row10.grown RV2.out O3.grown NV2.out); have RE3 := Lib.hid (Row10.grown RE2.out O3.grown NE2.out); have NV3 := Lib.hid (O3.apart RV2.out.lt NV2.out); have NE3 := Lib.hid (O3.apart RE2.out.lt NE2.out); have hs3 : wr.heap.size ≤ w3.heap.size := (by have h9 := O3.size; (first | omega | (simp at h9; omega))); clear B3 O3))
            | (at_builtin; refine wpList_append_bytes _ rfl (.tmp 32) (.tmp 33) rfl base v3 ((r ++ [44]) ++ QK) rfl (Bo.alloc HB3.out _) _ 1 1 [58] rfl rfl (by decide) (LitB.of (hnewB (by simp)) rfl) N4 (by have := HN.out; have := HN4.out; simp only [List.length_append, List.length_cons, List.length_nil]; omega) (by have := HN4.out; have := HQL.out; have := HQB.out; omega) (by simp; omega) ?_; intro q4 cap4 w4 B4 O4; have HB4 := Lib.hid B4; have HO4 := Lib.hid ((HO3.out.below (bal (Below.refl _ _) _)).trans O4); have RV4 := Lib.hid (Row10.grown (RV3.out.alloc _) O4.grown NV3.out); have RE4 := Lib.hid (Row10.grown (RE3.out.alloc _) O4.grown NE3.out); have NV4 := Lib.hid (O4.apart (RV3.out.alloc _).lt NV3.out); have hs4 : wr.heap.size ≤ w4.heap.size := (by have h9 := O4.size; simp at h9; omega); obtain ⟨e0, e1, e2, e3, e4, e5, e6, e7, e8, e9⟩ := RE4.out.parts; clear B4 O4)
            | (go_at_call 16; ((with_reducible refine (KV.out _ (below_seq HW.out (below_le (((HO.out.trans HO4.out)).frame hbase HB0.out) hb0)) base _ (((r ++ [44]) ++ QK) ++ [58]) hb0 (by omega) HB4.out (by rw [HPRE.out, List.length_append, HN.out]; have := HDT.out; have := HPL.out; omega)).mono ?_); rintro e w9 ⟨v9, r9, rfl, B9, O9, L9⟩; have NW := Lib.hid NV4.out)))
          go_roundw
          case rel =>
            have HP : Hid (Lim r (jpre (jkey keys) k ++ Et) r9 M) := Lib.hid (by
              rw [HJP.out]
              rw [HPRE.out] at L9
              exact L9.ahead (by rw [HN.out]; omega) (by have := HDT.out; have := HPL.out; omega))
            exact ⟨k + 1, r9, by omega, by go_num, B9, (HO.out.trans HO4.out).trans O9, (by show Lim _ _ _ _; rw [flat_next HEt.out]; exact HLm.out.next (by rw [HN.out]; omega) HP.out (Nat.le_refl _)), (by show _ ∧ _; exact ⟨L9.pos (by rw [HPRE.out, List.length_append]; have := HR0.out.1; omega), by have h1 := L9.2.2; have := HDT.out.2; have := HPL.out; rw [HPRE.out, List.length_append] at h1; rw [HN.out] at h1; omega⟩), (by show Row10 _ _ _ _ _ _ _ _ _ _ _ _; exact RV4.out.grown O9.grown NW.out), (by show _ ≠ _; exact O9.apart RV4.out.lt NW.out)⟩
          case measure => simp [intOf]; omega
    · have hge : ¬ (k : Int) < (kids.length : Int) := by omega
      have hkk : k = kids.length := by omega
      go_wp2
      go_ret
      refine ⟨_, rfl, r, HB.out, HR0.out.1, HR0.out.2, HO.out, ?_⟩
      have := HLm.out
      rw [List.take_of_length_le (by rw [HEL.out]; omega)] at this
      exact this
end Go.Proofs.YtebfggiodhaahaaGreatDoor
end
section
namespace Go.Proofs.YtebfggiodhaahaaGreatDoor
open Go.RowKit Go.Shelf
set_option linter.unusedVariables false

section
variable (g : Bool) (x0 x1 x2 x3 : Int) (la : Option Addr) (n lc : Nat) (ka : Option Addr) (m kc : Nat) (v : Value) (l : List UInt8) (base : Nat) (w : World)
set_option maxRecDepth 100000 in
theorem jval_null (bi : Int) (s : ByteArray) (hbase : base ≤ w.heap.size) (h : Bo w base v l) (hl : l.length ≤ 700000) :
    Calls Tryz.prog 16 #[v, V10 1 g x0 x1 x2 x3 bi s la n lc ka m kc] w fun e w' => ∃ v', e = .returned v' ∧ Bo w' base v' (l ++ [110, 117, 108, 108]) ∧ Onto w w' v v' := by
  have HB := Lib.hid h
  have B0 := Lib.hid (bal (Below.refl _ w) (.cells #[.int .i64 1, .bool g, .int .u64 x0, .int .u64 x1, .int .u64 x2, .int .u64 x3, .int .u64 bi, .string s, .slice la n lc, .slice ka m kc] 32))
  clear h
  go_enter Tryz.func16, Tryz.ntmps16
  go_wp2_with (first
    | (at_builtin; refine wpList_append_text _ rfl (.tmp 58) _ rfl base v l rfl (Bo.keep HB.out B0.out) ⟨#[110, 117, 108, 108]⟩ rfl (by show l.length + 4 ≤ _; omega) (by have := (B0.out).size; omega) ?_; intro v2 w2 B2 O2))
  go_ret
  exact ⟨_, rfl, B2, (Onto.of B0.out v).trans O2⟩
set_option maxRecDepth 100000 in
theorem jval_no (s : ByteArray) (hbase : base ≤ w.heap.size) (h : Bo w base v l) (hl : l.length ≤ 700000) :
    Calls Tryz.prog 16 #[v, V10 2 g x0 x1 x2 x3 0 s la n lc ka m kc] w fun e w' => ∃ v', e = .returned v' ∧ Bo w' base v' (l ++ [102, 97, 108, 115, 101]) ∧ Onto w w' v v' := by
  have HB := Lib.hid h
  have B0 := Lib.hid (bal (Below.refl _ w) (.cells #[.int .i64 2, .bool g, .int .u64 x0, .int .u64 x1, .int .u64 x2, .int .u64 x3, .int .u64 0, .string s, .slice la n lc, .slice ka m kc] 32))
  clear h
  go_enter Tryz.func16, Tryz.ntmps16
  go_wp2_with (first
    | (go_at_call 32; ((with_reducible refine (booltext_no _).mono ?_); rintro e w1 ⟨rfl, rfl⟩; have B1 := B0))
    | (at_builtin; refine wpList_append_text _ rfl (.tmp 11) (.tmp 14) rfl base v l rfl (Bo.keep HB.out B1.out) ⟨#[102, 97, 108, 115, 101]⟩ rfl (by show l.length + 5 ≤ _; omega) (by have := (B1.out).size; omega) ?_; intro v2 w2 B2 O2))
  go_ret
  exact ⟨_, rfl, B2, (Onto.of B1.out v).trans O2⟩
set_option maxRecDepth 100000 in
theorem jval_yes (s : ByteArray) (hbase : base ≤ w.heap.size) (h : Bo w base v l) (hl : l.length ≤ 700000) :
    Calls Tryz.prog 16 #[v, V10 2 g x0 x1 x2 x3 1 s la n lc ka m kc] w fun e w' => ∃ v', e = .returned v' ∧ Bo w' base v' (l ++ [116, 114, 117, 101]) ∧ Onto w w' v v' := by
  have HB := Lib.hid h
  have B0 := Lib.hid (bal (Below.refl _ w) (.cells #[.int .i64 2, .bool g, .int .u64 x0, .int .u64 x1, .int .u64 x2, .int .u64 x3, .int .u64 1, .string s, .slice la n lc, .slice ka m kc] 32))
  clear h
  go_enter Tryz.func16, Tryz.ntmps16
  go_wp2_with (first
    | (go_at_call 32; ((with_reducible refine (booltext_yes _).mono ?_); rintro e w1 ⟨rfl, rfl⟩; have B1 := B0))
    | (at_builtin; refine wpList_append_text _ rfl (.tmp 11) (.tmp 14) rfl base v l rfl (Bo.keep HB.out B1.out) ⟨#[116, 114, 117, 101]⟩ rfl (by show l.length + 4 ≤ _; omega) (by have := (B1.out).size; omega) ?_; intro v2 w2 B2 O2))
  go_ret
  exact ⟨_, rfl, B2, (Onto.of B1.out v).trans O2⟩
set_option maxRecDepth 100000 in
theorem jval_int (T : ByteArray) (hT : T.size ≤ 1000) (bi : Int) (s : ByteArray) (hbase : base ≤ w.heap.size) (h : Bo w base v l) (hl : l.length ≤ 700000)
    (k1 : ∀ W, Below w.heap.size w W → Calls Tryz.prog 33 #[.agg #[.bool g, .int .u64 x0, .int .u64 x1, .int .u64 x2, .int .u64 x3]] W fun e w' => e = .returned (.string T) ∧ Below W.heap.size W w') :
    Calls Tryz.prog 16 #[v, V10 3 g x0 x1 x2 x3 bi s la n lc ka m kc] w fun e w' => ∃ v', e = .returned v' ∧ Bo w' base v' (l ++ T.data.toList) ∧ Onto w w' v v' := by
  have HB := Lib.hid h; have K1 := Lib.hid k1
  have B0 := Lib.hid (bal (Below.refl _ w) (.cells #[.int .i64 3, .bool g, .int .u64 x0, .int .u64 x1, .int .u64 x2, .int .u64 x3, .int .u64 bi, .string s, .slice la n lc, .slice ka m kc] 32))
  clear h k1
  go_enter Tryz.func16, Tryz.ntmps16
  go_wp2_with (first
    | (go_at_call 33; ((with_reducible refine (K1.out _ B0.out).mono ?_); rintro e w1 ⟨rfl, hb⟩; have B1 := Lib.hid (btr B0.out hb); clear hb))
    | (at_builtin; refine wpList_append_text _ rfl (.tmp 18) (.tmp 21) rfl base v l rfl (Bo.keep HB.out B1.out) T rfl (by omega) (by have := (B1.out).size; omega) ?_; intro v2 w2 B2 O2))
  go_ret
  exact ⟨_, rfl, B2, (Onto.of B1.out v).trans O2⟩
set_option maxRecDepth 100000 in
theorem jval_float (T : ByteArray) (hT : T.size ≤ 1000) (bi : Int) (s : ByteArray) (hbase : base ≤ w.heap.size) (h : Bo w base v l) (hl : l.length ≤ 700000)
    (k1 : ∀ W, Below w.heap.size w W → Calls Tryz.prog 34 #[.int .u64 bi] W fun e w' => e = .returned (.tuple #[.string T, .bool true]) ∧ Below W.heap.size W w') :
    Calls Tryz.prog 16 #[v, V10 4 g x0 x1 x2 x3 bi s la n lc ka m kc] w fun e w' => ∃ v', e = .returned v' ∧ Bo w' base v' (l ++ T.data.toList) ∧ Onto w w' v v' := by
  have HB := Lib.hid h; have K1 := Lib.hid k1
  have B0 := Lib.hid (bal (Below.refl _ w) (.cells #[.int .i64 4, .bool g, .int .u64 x0, .int .u64 x1, .int .u64 x2, .int .u64 x3, .int .u64 bi, .string s, .slice la n lc, .slice ka m kc] 32))
  clear h k1
  go_enter Tryz.func16, Tryz.ntmps16
  go_wp2_with (first
    | (go_at_call 34; ((with_reducible refine (K1.out _ B0.out).mono ?_); rintro e w1 ⟨rfl, hb⟩; have B1 := Lib.hid (btr B0.out hb); clear hb))
    | (at_builtin; refine wpList_append_text _ rfl (.tmp 31) (.tmp 32) rfl base v l rfl (Bo.keep HB.out B1.out) T rfl (by omega) (by have := (B1.out).size; omega) ?_; intro v2 w2 B2 O2))
  go_ret
  exact ⟨_, rfl, B2, (Onto.of B1.out v).trans O2⟩
set_option maxRecDepth 100000 in
theorem jval_text (L : List UInt8) (bi : Int) (s : ByteArray) (hbase : base ≤ w.heap.size) (h : Bo w base v l) (hl : l.length ≤ 700000)
    (k1 : ∀ W, Below w.heap.size w W → Calls Tryz.prog 35 #[v, .string s] W fun e w' => ∃ v', e = .returned v' ∧ Bo w' base v' (l ++ L) ∧ Onto W w' v v') :
    Calls Tryz.prog 16 #[v, V10 5 g x0 x1 x2 x3 bi s la n lc ka m kc] w fun e w' => ∃ v', e = .returned v' ∧ Bo w' base v' (l ++ L) ∧ Onto w w' v v' := by
  have K1 := Lib.hid k1
  have B0 := Lib.hid (bal (Below.refl _ w) (.cells #[.int .i64 5, .bool g, .int .u64 x0, .int .u64 x1, .int .u64 x2, .int .u64 x3, .int .u64 bi, .string s, .slice la n lc, .slice ka m kc] 32))
  clear h k1
  go_enter Tryz.func16, Tryz.ntmps16
  go_wp2_with (go_at_call 35; ((with_reducible refine (K1.out _ B0.out).mono ?_); rintro e w1 ⟨v1, rfl, B1, O1⟩))
  go_ret
  exact ⟨_, rfl, B1, (Onto.of B0.out v).trans O1⟩
set_option maxRecDepth 100000 in
set_option maxHeartbeats 8000000 in
theorem jval_arr (bi : Int) (s : ByteArray) (hbase : base ≤ w.heap.size) (h : Bo w base v l) (hl : l.length ≤ 700000) (f : List UInt8) (M N : Nat) (hM : 2 + N ≤ M)
    (k1 : ∀ W v1, Bo W base v1 (l ++ [91]) → Onto w W v v1 → Calls Tryz.prog 36 #[v1, V10 7 g x0 x1 x2 x3 bi s la n lc ka m kc] W fun e w' => ∃ v' r, e = .returned v' ∧ Bo w' base v' r ∧ 0 < r.length ∧ r.length ≤ 800000 ∧ Onto W w' v1 v' ∧ Lim (l ++ [91]) f r N) :
    Calls Tryz.prog 16 #[v, V10 7 g x0 x1 x2 x3 bi s la n lc ka m kc] w fun e w' => ∃ v' r, e = .returned v' ∧ Bo w' base v' r ∧ Onto w w' v v' ∧ Lim l ([91] ++ f ++ [93]) r M := by
  have HB := Lib.hid h
  have KA : Hid (∀ W v1, Bo W base v1 (l ++ [91]) → Onto w W v v1 → Calls Tryz.prog 36 #[v1, V10 7 g x0 x1 x2 x3 bi s la n lc ka m kc] W fun e w' => ∃ q r c, e = .returned (.slice (some ⟨q, 0, none⟩) r.length c) ∧ Bo w' base (.slice (some ⟨q, 0, none⟩) r.length c) r ∧ r.length ≤ 800000 ∧ Onto W w' v1 (.slice (some ⟨q, 0, none⟩) r.length c) ∧ Lim (l ++ [91]) f r N) := Lib.hid (fun W v1 h1 h2 => (k1 W v1 h1 h2).mono (by
    rintro e w' ⟨v', r, rfl, h3, h4, h5, h6, h7⟩
    obtain ⟨q, c, rfl, _⟩ := h3.some h4
    exact ⟨q, r, c, rfl, h3, h5, h6, h7⟩))
  have R0 := Lib.hid (Row10.new w (.int .i64 7) (.bool g) (.int .u64 x0) (.int .u64 x1) (.int .u64 x2) (.int .u64 x3) (.int .u64 bi) (.string s) (.slice la n lc) (.slice ka m kc))
  have N0 : Hid (some w.heap.size ≠ v.ownBlock) := Lib.hid (h.away (Or.inl (Nat.le_refl _)))
  have NV0 : Hid (∀ c, w.heap.size ≤ c → some c ≠ v.ownBlock) := Lib.hid (fun c hc => h.away (Or.inl hc))
  clear h k1
  go_enter Tryz.func16, Tryz.ntmps16
  go_wp2
  first | (go_region_held3 (fun w' => w'.cell? ⟨w.heap.size, 0, none⟩ = some (.int .i64 7) ∧ w'.cell? ⟨w.heap.size, 1, none⟩ = some (.bool g) ∧ w'.cell? ⟨w.heap.size, 2, none⟩ = some (.int .u64 x0) ∧ w'.cell? ⟨w.heap.size, 3, none⟩ = some (.int .u64 x1) ∧ w'.cell? ⟨w.heap.size, 4, none⟩ = some (.int .u64 x2) ∧ w'.cell? ⟨w.heap.size, 5, none⟩ = some (.int .u64 x3) ∧ w'.cell? ⟨w.heap.size, 6, none⟩ = some (.int .u64 bi) ∧ w'.cell? ⟨w.heap.size, 7, none⟩ = some (.string s) ∧ w'.cell? ⟨w.heap.size, 8, none⟩ = some (.slice la n lc) ∧ w'.cell? ⟨w.heap.size, 9, none⟩ = some (.slice ka m kc))
      ((refine Row10.parts ?_; (repeat (first | (with_reducible exact RV3.out) | (with_reducible exact RV2.out) | (with_reducible exact RV1.out) | (with_reducible exact R0.out) | (with_reducible refine Row10.alloc ?_ _) | (with_reducible refine Row10.drew ?_))); done))
      (first
    | (refine step_append_bytes (by rfl) (.tmp 42) (.tmp 43) (by rfl) base v l (by rfl) (by repeat (first | (with_reducible exact HB.out) | (with_reducible refine Bo.alloc ?_ _) | (with_reducible refine Bo.drew ?_))) _ 1 1 [91] (by first | rfl | (simp [Act.eval]; done)) (by rfl) (by decide) (LitB.of (cs := #[.int .u8 91]) (t := 5) (by repeat (first | (with_reducible exact hnewB rfl) | (refine hnewB ?_; (simp; done)) | (with_reducible refine hdrwB ?_) | (with_reducible refine holdB ?_))) (by rfl)) (l.length + 1) (by rfl) (by omega) (by first | (simp <;> omega) | omega) ?_; intro q1 cap1 w1 B1 O1; have HB1 := Lib.hid B1; have HOR1 := Lib.hid O1; have HO1 := Lib.hid ((Onto.of (show Below w.heap.size w _ from (by repeat (first | (with_reducible exact Below.refl _ _) | (with_reducible refine bal ?_ _) | (with_reducible refine Below.drew ?_)))) v).trans O1); have RV1 : Hid (Row10 w1 w.heap.size (.int .i64 7) (.bool g) (.int .u64 x0) (.int .u64 x1) (.int .u64 x2) (.int .u64 x3) (.int .u64 bi) (.string s) (.slice la n lc) (.slice ka m kc)) := Lib.hid (Row10.grown (show Row10 _ w.heap.size (.int .i64 7) (.bool g) (.int .u64 x0) (.int .u64 x1) (.int .u64 x2) (.int .u64 x3) (.int .u64 bi) (.string s) (.slice la n lc) (.slice ka m kc) from (by repeat (first | (with_reducible exact R0.out) | (with_reducible refine Row10.alloc ?_ _) | (with_reducible refine Row10.drew ?_)))) O1.grown N0.out); have NV1 : Hid (some w.heap.size ≠ (Value.slice (some ⟨q1, 0, none⟩) (l.length + 1) cap1).ownBlock) := Lib.hid (O1.apart (by first | (simp <;> omega) | omega) N0.out); have NW1 : Hid (∀ c, w1.heap.size ≤ c → some c ≠ (Value.slice (some ⟨q1, 0, none⟩) (l.length + 1) cap1).ownBlock) := Lib.hid (fun c hc => B1.away (Or.inl hc)); have AP1 := Lib.hid (fun c hc hn => O1.apart (c := c) hc hn); have lv1 := RV1.out.lt; have sz1 := O1.size; clear B1 O1)
    | (go_at_call 36; ((with_reducible refine (KA.out _ _ (by repeat (first | (with_reducible exact HB1.out) | (with_reducible refine Bo.alloc ?_ _) | (with_reducible refine Bo.drew ?_))) (HO1.out.below (by repeat (first | (with_reducible exact Below.refl _ _) | (with_reducible refine bal ?_ _) | (with_reducible refine Below.drew ?_))))).mono ?_); rintro e w2 ⟨q2, r2, cap2, rfl, B2, hr2, O2, L2⟩; have HB2 := Lib.hid B2; have HOR2 := Lib.hid O2; have HO2 := Lib.hid ((HO1.out.below (by repeat (first | (with_reducible exact Below.refl _ _) | (with_reducible refine bal ?_ _) | (with_reducible refine Below.drew ?_)))).trans O2); have RV2 : Hid (Row10 w2 w.heap.size (.int .i64 7) (.bool g) (.int .u64 x0) (.int .u64 x1) (.int .u64 x2) (.int .u64 x3) (.int .u64 bi) (.string s) (.slice la n lc) (.slice ka m kc)) := Lib.hid (Row10.grown (show Row10 _ w.heap.size (.int .i64 7) (.bool g) (.int .u64 x0) (.int .u64 x1) (.int .u64 x2) (.int .u64 x3) (.int .u64 bi) (.string s) (.slice la n lc) (.slice ka m kc) from (by repeat (first | (with_reducible exact RV1.out) | (with_reducible refine Row10.alloc ?_ _) | (with_reducible refine Row10.drew ?_)))) O2.grown NV1.out); have NV2 : Hid (some w.heap.size ≠ (Value.slice (some ⟨q2, 0, none⟩) r2.length cap2).ownBlock) := Lib.hid (O2.apart (by first | omega | (simp <;> omega)) NV1.out); have lv2 := RV2.out.lt; have HL2 := Lib.hid L2; have sz2 := O2.size; clear B2 O2 L2))
    | (refine step_append_bytes (by rfl) (.tmp 46) (.tmp 47) (by rfl) base (.slice (some ⟨q2, 0, none⟩) r2.length cap2) r2 (by rfl) (by repeat (first | (with_reducible exact HB2.out) | (with_reducible refine Bo.alloc ?_ _) | (with_reducible refine Bo.drew ?_))) _ 1 1 [93] (by first | rfl | (simp [Act.eval]; done)) (by rfl) (by decide) (LitB.of (cs := #[.int .u8 93]) (t := 5) (by repeat (first | (with_reducible exact hnewB rfl) | (refine hnewB ?_; (simp; done)) | (with_reducible refine hdrwB ?_) | ((with_reducible refine hontB HOR2.out ?_ ?_); rotate_left; (focus (first | (exact NW1.out _ (by first | omega | (simp <;> omega))) | (exact AP1.out _ (by first | omega | (simp <;> omega)) (NV0.out _ (by first | omega | (simp <;> omega))))))) | ((with_reducible refine hontB HOR1.out ?_ ?_); rotate_left; (focus (exact NV0.out _ (by first | omega | (simp <;> omega))))) | (with_reducible refine holdB ?_))) (by rfl)) (r2.length + 1) (by rfl) (by omega) (by first | omega | (simp <;> omega)) ?_; intro q3 cap3 w3 B3 O3; have HB3 := Lib.hid B3; have HO3 := Lib.hid ((HO2.out.below (by repeat (first | (with_reducible exact Below.refl _ _) | (with_reducible refine bal ?_ _) | (with_reducible refine Below.drew ?_)))).trans O3); have RV3 : Hid (Row10 w3 w.heap.size (.int .i64 7) (.bool g) (.int .u64 x0) (.int .u64 x1) (.int .u64 x2) (.int .u64 x3) (.int .u64 bi) (.string s) (.slice la n lc) (.slice ka m kc)) := Lib.hid (Row10.grown (show Row10 _ w.heap.size (.int .i64 7) (.bool g) (.int .u64 x0) (.int .u64 x1) (.int .u64 x2) (.int .u64 x3) (.int .u64 bi) (.string s) (.slice la n lc) (.slice ka m kc) from (by repeat (first | (with_reducible exact RV2.out) | (with_reducible refine Row10.alloc ?_ _) | (with_reducible refine Row10.drew ?_)))) O3.grown NV2.out); clear B3 O3)
    | fail)) | fail
  all_goals
    go_wp2
    go_ret
    exact ⟨_, _, rfl, HB3.out, HO3.out, HL2.out.close (by simp; omega)⟩
set_option maxRecDepth 100000 in
set_option maxHeartbeats 8000000 in
theorem jval_map (bi : Int) (s : ByteArray) (hbase : base ≤ w.heap.size) (h : Bo w base v l) (hl : l.length ≤ 700000) (f : List UInt8) (M N : Nat) (hM : 2 + N ≤ M)
    (k1 : ∀ W v1, Bo W base v1 (l ++ [123]) → Onto w W v v1 → Calls Tryz.prog 36 #[v1, V10 8 g x0 x1 x2 x3 bi s la n lc ka m kc] W fun e w' => ∃ v' r, e = .returned v' ∧ Bo w' base v' r ∧ 0 < r.length ∧ r.length ≤ 800000 ∧ Onto W w' v1 v' ∧ Lim (l ++ [123]) f r N) :
    Calls Tryz.prog 16 #[v, V10 8 g x0 x1 x2 x3 bi s la n lc ka m kc] w fun e w' => ∃ v' r, e = .returned v' ∧ Bo w' base v' r ∧ Onto w w' v v' ∧ Lim l ([123] ++ f ++ [125]) r M := by
  have HB := Lib.hid h
  have KA : Hid (∀ W v1, Bo W base v1 (l ++ [123]) → Onto w W v v1 → Calls Tryz.prog 36 #[v1, V10 8 g x0 x1 x2 x3 bi s la n lc ka m kc] W fun e w' => ∃ q r c, e = .returned (.slice (some ⟨q, 0, none⟩) r.length c) ∧ Bo w' base (.slice (some ⟨q, 0, none⟩) r.length c) r ∧ r.length ≤ 800000 ∧ Onto W w' v1 (.slice (some ⟨q, 0, none⟩) r.length c) ∧ Lim (l ++ [123]) f r N) := Lib.hid (fun W v1 h1 h2 => (k1 W v1 h1 h2).mono (by
    rintro e w' ⟨v', r, rfl, h3, h4, h5, h6, h7⟩
    obtain ⟨q, c, rfl, _⟩ := h3.some h4
    exact ⟨q, r, c, rfl, h3, h5, h6, h7⟩))
  have R0 := Lib.hid (Row10.new w (.int .i64 8) (.bool g) (.int .u64 x0) (.int .u64 x1) (.int .u64 x2) (.int .u64 x3) (.int .u64 bi) (.string s) (.slice la n lc) (.slice ka m kc))
  have N0 : Hid (some w.heap.size ≠ v.ownBlock) := Lib.hid (h.away (Or.inl (Nat.le_refl _)))
  have NV0 : Hid (∀ c, w.heap.size ≤ c → some c ≠ v.ownBlock) := Lib.hid (fun c hc => h.away (Or.inl hc))
  clear h k1
  go_enter Tryz.func16, Tryz.ntmps16
  go_wp2
  first | (go_region_held3 (fun w' => w'.cell? ⟨w.heap.size, 0, none⟩ = some (.int .i64 8) ∧ w'.cell? ⟨w.heap.size, 1, none⟩ = some (.bool g) ∧ w'.cell? ⟨w.heap.size, 2, none⟩ = some (.int .u64 x0) ∧ w'.cell? ⟨w.heap.size, 3, none⟩ = some (.int .u64 x1) ∧ w'.cell? ⟨w.heap.size, 4, none⟩ = some (.int .u64 x2) ∧ w'.cell? ⟨w.heap.size, 5, none⟩ = some (.int .u64 x3) ∧ w'.cell? ⟨w.heap.size, 6, none⟩ = some (.int .u64 bi) ∧ w'.cell? ⟨w.heap.size, 7, none⟩ = some (.string s) ∧ w'.cell? ⟨w.heap.size, 8, none⟩ = some (.slice la n lc) ∧ w'.cell? ⟨w.heap.size, 9, none⟩ = some (.slice ka m kc))
      ((refine Row10.parts ?_; (repeat (first | (with_reducible exact RV3.out) | (with_reducible exact RV2.out) | (with_reducible exact RV1.out) | (with_reducible exact R0.out) | (with_reducible refine Row10.alloc ?_ _) | (with_reducible refine Row10.drew ?_))); done))
      (first
    | (refine step_append_bytes (by rfl) (.tmp 51) (.tmp 52) (by rfl) base v l (by rfl) (by repeat (first | (with_reducible exact HB.out) | (with_reducible refine Bo.alloc ?_ _) | (with_reducible refine Bo.drew ?_))) _ 1 1 [123] (by first | rfl | (simp [Act.eval]; done)) (by rfl) (by decide) (LitB.of (cs := #[.int .u8 123]) (t := 5) (by repeat (first | (with_reducible exact hnewB rfl) | (refine hnewB ?_; (simp; done)) | (with_reducible refine hdrwB ?_) | (with_reducible refine holdB ?_))) (by rfl)) (l.length + 1) (by rfl) (by omega) (by first | (simp <;> omega) | omega) ?_; intro q1 cap1 w1 B1 O1; have HB1 := Lib.hid B1; have HOR1 := Lib.hid O1; have HO1 := Lib.hid ((Onto.of (show Below w.heap.size w _ from (by repeat (first | (with_reducible exact Below.refl _ _) | (with_reducible refine bal ?_ _) | (with_reducible refine Below.drew ?_)))) v).trans O1); have RV1 : Hid (Row10 w1 w.heap.size (.int .i64 8) (.bool g) (.int .u64 x0) (.int .u64 x1) (.int .u64 x2) (.int .u64 x3) (.int .u64 bi) (.string s) (.slice la n lc) (.slice ka m kc)) := Lib.hid (Row10.grown (show Row10 _ w.heap.size (.int .i64 8) (.bool g) (.int .u64 x0) (.int .u64 x1) (.int .u64 x2) (.int .u64 x3) (.int .u64 bi) (.string s) (.slice la n lc) (.slice ka m kc) from (by repeat (first | (with_reducible exact R0.out) | (with_reducible refine Row10.alloc ?_ _) | (with_reducible refine Row10.drew ?_)))) O1.grown N0.out); have NV1 : Hid (some w.heap.size ≠ (Value.slice (some ⟨q1, 0, none⟩) (l.length + 1) cap1).ownBlock) := Lib.hid (O1.apart (by first | (simp <;> omega) | omega) N0.out); have NW1 : Hid (∀ c, w1.heap.size ≤ c → some c ≠ (Value.slice (some ⟨q1, 0, none⟩) (l.length + 1) cap1).ownBlock) := Lib.hid (fun c hc => B1.away (Or.inl hc)); have AP1 := Lib.hid (fun c hc hn => O1.apart (c := c) hc hn); have lv1 := RV1.out.lt; have sz1 := O1.size; clear B1 O1)
    | (go_at_call 36; ((with_reducible refine (KA.out _ _ (by repeat (first | (with_reducible exact HB1.out) | (with_reducible refine Bo.alloc ?_ _) | (with_reducible refine Bo.drew ?_))) (HO1.out.below (by repeat (first | (with_reducible exact Below.refl _ _) | (with_reducible refine bal ?_ _) | (with_reducible refine Below.drew ?_))))).mono ?_); rintro e w2 ⟨q2, r2, cap2, rfl, B2, hr2, O2, L2⟩; have HB2 := Lib.hid B2; have HOR2 := Lib.hid O2; have HO2 := Lib.hid ((HO1.out.below (by repeat (first | (with_reducible exact Below.refl _ _) | (with_reducible refine bal ?_ _) | (with_reducible refine Below.drew ?_)))).trans O2); have RV2 : Hid (Row10 w2 w.heap.size (.int .i64 8) (.bool g) (.int .u64 x0) (.int .u64 x1) (.int .u64 x2) (.int .u64 x3) (.int .u64 bi) (.string s) (.slice la n lc) (.slice ka m kc)) := Lib.hid (Row10.grown (show Row10 _ w.heap.size (.int .i64 8) (.bool g) (.int .u64 x0) (.int .u64 x1) (.int .u64 x2) (.int .u64 x3) (.int .u64 bi) (.string s) (.slice la n lc) (.slice ka m kc) from (by repeat (first | (with_reducible exact RV1.out) | (with_reducible refine Row10.alloc ?_ _) | (with_reducible refine Row10.drew ?_)))) O2.grown NV1.out); have NV2 : Hid (some w.heap.size ≠ (Value.slice (some ⟨q2, 0, none⟩) r2.length cap2).ownBlock) := Lib.hid (O2.apart (by first | omega | (simp <;> omega)) NV1.out); have lv2 := RV2.out.lt; have HL2 := Lib.hid L2; have sz2 := O2.size; clear B2 O2 L2))
    | (refine step_append_bytes (by rfl) (.tmp 55) (.tmp 56) (by rfl) base (.slice (some ⟨q2, 0, none⟩) r2.length cap2) r2 (by rfl) (by repeat (first | (with_reducible exact HB2.out) | (with_reducible refine Bo.alloc ?_ _) | (with_reducible refine Bo.drew ?_))) _ 1 1 [125] (by first | rfl | (simp [Act.eval]; done)) (by rfl) (by decide) (LitB.of (cs := #[.int .u8 125]) (t := 5) (by repeat (first | (with_reducible exact hnewB rfl) | (refine hnewB ?_; (simp; done)) | (with_reducible refine hdrwB ?_) | ((with_reducible refine hontB HOR2.out ?_ ?_); rotate_left; (focus (first | (exact NW1.out _ (by first | omega | (simp <;> omega))) | (exact AP1.out _ (by first | omega | (simp <;> omega)) (NV0.out _ (by first | omega | (simp <;> omega))))))) | ((with_reducible refine hontB HOR1.out ?_ ?_); rotate_left; (focus (exact NV0.out _ (by first | omega | (simp <;> omega))))) | (with_reducible refine holdB ?_))) (by rfl)) (r2.length + 1) (by rfl) (by omega) (by first | omega | (simp <;> omega)) ?_; intro q3 cap3 w3 B3 O3; have HB3 := Lib.hid B3; have HO3 := Lib.hid ((HO2.out.below (by repeat (first | (with_reducible exact Below.refl _ _) | (with_reducible refine bal ?_ _) | (with_reducible refine Below.drew ?_)))).trans O3); have RV3 : Hid (Row10 w3 w.heap.size (.int .i64 8) (.bool g) (.int .u64 x0) (.int .u64 x1) (.int .u64 x2) (.int .u64 x3) (.int .u64 bi) (.string s) (.slice la n lc) (.slice ka m kc)) := Lib.hid (Row10.grown (show Row10 _ w.heap.size (.int .i64 8) (.bool g) (.int .u64 x0) (.int .u64 x1) (.int .u64 x2) (.int .u64 x3) (.int .u64 bi) (.string s) (.slice la n lc) (.slice ka m kc) from (by repeat (first | (with_reducible exact RV2.out) | (with_reducible refine Row10.alloc ?_ _) | (with_reducible refine Row10.drew ?_)))) O3.grown NV2.out); clear B3 O3)
    | fail)) | fail
  all_goals
    go_wp2
    go_ret
    exact ⟨_, _, rfl, HB3.out, HO3.out, HL2.out.close (by simp; omega)⟩
end
end Go.Proofs.YtebfggiodhaahaaGreatDoor
end
section
namespace Go.Proofs.YtebfggiodhaahaaGreatDoor
open Go.RowKit Go.Shelf
set_option linter.unusedVariables false

theorem leafJ {f : FuncId} {args : Array Value} {w : World} {base d : Nat} {v : Value} {l E : List UInt8} (hd : 1 ≤ d) (hE : E.length ≤ 30000) (hc : Calls Tryz.prog f args w fun e w' => ∃ v', e = .returned v' ∧ Bo w' base v' (l ++ E) ∧ Onto w w' v v') :
    Calls Tryz.prog f args w fun e w' => ∃ v' r, e = .returned v' ∧ Bo w' base v' r ∧ Onto w w' v v' ∧ Lim l E r (30000 * d) := by
  refine hc.mono ?_
  rintro e w' ⟨v', rfl, h1, h2⟩
  exact ⟨v', _, rfl, h1, h2, Lim.leaf (by omega)⟩
/-- All of it can be said in JSON. -/
theorem notjson_6 {o : Own} {kids : List VT} (h : hasT notJsonT (.mk o kids) = false) : o.kind ≠ 6 ∧ (o.kind = 4 → cls o.bits.toNat = 1) := by
  have h1 := (hasT_false h).1
  unfold notJsonT at h1
  simp only [VT.o_mk, Bool.or_eq_false_iff, Bool.and_eq_false_imp] at h1
  refine ⟨of_decide_eq_false h1.1, fun h4 => ?_⟩
  have := h1.2 (decide_eq_true h4)
  rw [bne_eq_false_iff_eq] at this
  omega
/-- appendValue of all that may be, and can be said in JSON. -/
theorem jvs_any : ∀ (T : VT) (W0 : World), T.In W0 → Tabs W0 → Gd T → hasT notJsonT T = false → T.depth ≤ 16 → JVs T W0 := by
  intro T
  induction T using VT.ind with
  | h o kids ih =>
    intro W0 hI hT hG hJ hd w hw base v l hb0 hbase hB hl
    have hown := hG.2.own
    have hover := hG.over
    have hwf : o.WF kids.length := hI.wf
    obtain ⟨kb, koff, hKK⟩ := hI.keys'
    have hD : ∀ t ∈ kids, t.depth ≤ (VT.mk o kids).depth - 1 := fun t ht => by have := VT.depth_kid (o := o) ht; omega
    have hdp : 1 ≤ (VT.mk o kids).depth := by rw [VT.depth_mk]; omega
    have hKA := hI.hl
    have hins : ∀ (i : Nat) (t : VT), kids[i]? = some t → t.In W0 := fun i t h => hI.kid h
    have av : ∀ t ∈ kids, JVs t W0 := fun t ht => ih t ht W0 (hI.mem ht) hT (hG.kid ht) ((hasT_false hJ).2 t ht) (by have := VT.depth_kid (o := o) ht; omega)
    have hnj := notjson_6 hJ
    obtain ⟨d, hde⟩ : ∃ d, (VT.mk o kids).depth = d := ⟨_, rfl⟩
    rw [hde] at hd hl hD hdp ⊢
    rw [jencT_mk]
    have hrest : restB o kids.length = true := by unfold ownB at hown; rw [Bool.and_eq_true] at hown; exact hown.2
    have hkind := own_kind hown
    have hTw := fun W (h : Below w.heap.size w W) => tabs_on (tabs_on hT hw) h
    clear ih
    have hl2 : l.length ≤ 700000 := by omega
    show Calls Tryz.prog 16 #[v, V10 o.kind o.g (lb 0 o.x) (lb 1 o.x) (lb 2 o.x) (lb 3 o.x) o.bits o.text o.la kids.length o.lcap o.ka o.keys.length o.kcap] w _
    rcases hkind with hk | hk | hk | hk | hk | hk | hk | hk
    · rw [jO_1 hk, hk]
      exact leafJ hdp (by simp) (jval_null o.g _ _ _ _ o.la _ o.lcap o.ka _ o.kcap v l base w o.bits o.text hbase hB hl2)
    · have hb := rest_2 hk hrest
      have hb0' := hwf.2.2.1.1
      rw [jO_2 hk, hk]
      rcases (show o.bits = 0 ∨ o.bits = 1 by omega) with hb1 | hb1
      · rw [hb1, if_pos rfl]
        exact leafJ hdp (by simp) (jval_no o.g _ _ _ _ o.la _ o.lcap o.ka _ o.kcap v l base w o.text hbase hB hl2)
      · rw [hb1, if_neg (by decide)]
        exact leafJ hdp (by simp) (jval_yes o.g _ _ _ _ o.la _ o.lcap o.ka _ o.kcap v l base w o.text hbase hB hl2)
    · have hj := jint_len o.g o.x hwf.2.1
      rw [jO_3 hk, hk]
      have := jval_int o.g (lb 0 o.x) (lb 1 o.x) (lb 2 o.x) (lb 3 o.x) o.la kids.length o.lcap o.ka o.keys.length o.kcap v l base w (str (jint o.g o.x)) (by rw [str_size]; omega) o.bits o.text hbase hB hl2 (fun W hW => pint_any o.g o.x hwf.2.1 W (hTw W hW).1)
      rw [str_data] at this
      exact leafJ hdp (by omega) this
    · obtain ⟨b, hb⟩ : ∃ b : Nat, o.bits = b := ⟨o.bits.toNat, (Int.toNat_of_nonneg hwf.2.2.1.1).symm⟩
      have hb2 : b < 18446744073709551616 := by have := hwf.2.2.1.2; rw [hb] at this; omega
      have hc : cls b = 1 := by have := hnj.2 hk; rw [hb, Int.toNat_natCast] at this; exact this
      have hp := ptx_len hc
      rw [jO_4 hk, hk, hb, Int.toNat_natCast]
      have := jval_float o.g (lb 0 o.x) (lb 1 o.x) (lb 2 o.x) (lb 3 o.x) o.la kids.length o.lcap o.ka o.keys.length o.kcap v l base w (str (ptx b)) (by rw [str_size]; omega) b o.text hbase hB hl2 (fun W hW => by
        have h := dprint_any b hb2 W (hTw W hW).2 (hTw W hW).1
        unfold prans at h
        rw [if_pos hc] at h
        exact h)
      rw [str_data] at this
      exact leafJ hdp (by omega) this
    · have hs := over_5 (Or.inl hk) hover
      have hq := jq_len o.text.data.toList
      rw [bytes_len] at hq
      rw [jO_5 hk, hk]
      exact leafJ hdp (by omega) (jval_text o.g _ _ _ _ o.la _ o.lcap o.ka _ o.kcap v l base w _ o.bits o.text hbase hB hl2 (fun W hW => atext_any o.text (by omega) v l base W (Nat.le_trans hbase hW.size) (Bo.keep hB hW) (by omega)))
    · exact absurd hk hnj.1
    · have hn := over_7 hk hover
      obtain ⟨bb, off, ha, hb⟩ := hKA
      rw [jO_7 hk, hk]
      exact jval_arr o.g (lb 0 o.x) (lb 1 o.x) (lb 2 o.x) (lb 3 o.x) o.la kids.length o.lcap o.ka o.keys.length o.kcap v l base w o.bits o.text hbase hB (by omega) (jpcs (fun _ => []) (kids.map jencT)).flatten (30000 * d) (30000 * (d - 1) + 24600) (by omega) (fun W v1 h1 h2 =>
        jitems_7 o.g _ _ _ _ o.bits o.text o.la o.lcap o.ka o.kcap o.keys.length kids bb off (d - 1) W0 ⟨ha, hb, hins, by omega⟩ hD (by omega) hn av W (below_seq hw (below_le (h2.frame hbase hB) hb0)) base v1 (l ++ [91]) hb0 (Nat.le_trans hbase h2.size) h1 (by simp) (by simp; omega))
    · have hrr := rest_8 hk hrest
      have hoo := over_8 hk hover
      obtain ⟨bb, off, ha, hb⟩ := hKA
      rw [jO_8 hk, hk]
      exact jval_map o.g (lb 0 o.x) (lb 1 o.x) (lb 2 o.x) (lb 3 o.x) o.la kids.length o.lcap o.ka o.keys.length o.kcap v l base w o.bits o.text hbase hB (by omega) (jpcs (jkey o.keys) (kids.map jencT)).flatten (30000 * d) (30000 * (d - 1) + 24600) (by omega) (fun W v1 h1 h2 =>
        jitems_8 o.g _ _ _ _ o.bits o.text o.la o.lcap o.ka o.kcap o.keys kb koff kids bb off (d - 1) W0 ⟨ha, hb, hins, by omega⟩ hKK hoo.2.2 hrr.1 hD (by omega) hoo.2.1 av W (below_seq hw (below_le (h2.frame hbase hB) hb0)) base v1 (l ++ [123]) hb0 (Nat.le_trans hbase h2.size) h1 (by simp) (by simp; omega))

section
variable (kd : Int) (g : Bool) (x0 x1 x2 x3 bi : Int) (s : ByteArray) (la : Option Addr) (n lc : Nat) (ka : Option Addr) (m kc : Nat) (w : World)
set_option maxRecDepth 100000 in
theorem jenc_no (z : Int) (hz : z ≠ 0)
    (k1 : ∀ W, Below w.heap.size w W → Calls Tryz.prog 12 #[V10 kd g x0 x1 x2 x3 bi s la n lc ka m kc] W fun e w' => e = .returned (.int .i64 z) ∧ Below W.heap.size W w') :
    Calls Tryz.prog 10 #[V10 kd g x0 x1 x2 x3 bi s la n lc ka m kc] w fun e w' => e = .returned (.tuple #[.slice none 0 0, .int .i64 z]) ∧ Below w.heap.size w w' := by
  have K1 := Lib.hid k1
  clear k1
  have hz2 : (z != 0) = true := by simpa using hz
  have B0 := Lib.hid (bal (Below.refl _ w) (.cells #[.int .i64 kd, .bool g, .int .u64 x0, .int .u64 x1, .int .u64 x2, .int .u64 x3, .int .u64 bi, .string s, .slice la n lc, .slice ka m kc] 32))
  go_enter Tryz.func10, Tryz.ntmps10
  go_wp2_with (go_at_call 12; ((with_reducible refine (K1.out _ B0.out).mono ?_); rintro e w1 ⟨rfl, hb⟩; have B1 := Lib.hid (btr B0.out hb); clear hb))
  go_ret2
  exact ⟨rfl, B1.out⟩
variable (k1 : ∀ W, Below w.heap.size w W → Calls Tryz.prog 12 #[V10 kd g x0 x1 x2 x3 bi s la n lc ka m kc] W fun e w' => e = .returned (.int .i64 0) ∧ Below W.heap.size W w')
include k1
set_option maxRecDepth 100000 in
theorem jenc_out
    (k2 : ∀ W, Below w.heap.size w W → Calls Tryz.prog 15 #[V10 kd g x0 x1 x2 x3 bi s la n lc ka m kc, .int .i64 1] W fun e w' => e = .returned (.bool false) ∧ Below W.heap.size W w') :
    Calls Tryz.prog 10 #[V10 kd g x0 x1 x2 x3 bi s la n lc ka m kc] w fun e w' => e = .returned (.tuple #[.slice none 0 0, .int .i64 5]) ∧ Below w.heap.size w w' := by
  have K1 := Lib.hid k1; have K2 := Lib.hid k2
  clear k1 k2
  have B0 := Lib.hid (bal (Below.refl _ w) (.cells #[.int .i64 kd, .bool g, .int .u64 x0, .int .u64 x1, .int .u64 x2, .int .u64 x3, .int .u64 bi, .string s, .slice la n lc, .slice ka m kc] 32))
  have R0 := Lib.hid (Row10.new w (.int .i64 kd) (.bool g) (.int .u64 x0) (.int .u64 x1) (.int .u64 x2) (.int .u64 x3) (.int .u64 bi) (.string s) (.slice la n lc) (.slice ka m kc))
  go_enter Tryz.func10, Tryz.ntmps10
  go_wp2_with (first
    | (go_at_call 12; ((with_reducible refine (K1.out _ B0.out).mono ?_); rintro e w1 ⟨rfl, hb⟩; have B1 := Lib.hid (btr B0.out hb); have R1 := Lib.hid (Row10.keep hb R0.out); obtain ⟨p0, p1, p2, p3, p4, p5, p6, p7, p8, p9⟩ := R1.out.parts; clear hb))
    | (go_at_call 15; ((with_reducible refine (K2.out _ B1.out).mono ?_); rintro e w2 ⟨rfl, hb⟩; have B2 := Lib.hid (btr B1.out hb); clear hb)))
  go_ret2
  exact ⟨rfl, B2.out⟩
variable (k2 : ∀ W, Below w.heap.size w W → Calls Tryz.prog 15 #[V10 kd g x0 x1 x2 x3 bi s la n lc ka m kc, .int .i64 1] W fun e w' => e = .returned (.bool true) ∧ Below W.heap.size W w')
include k2
set_option maxRecDepth 100000 in
theorem jenc_long
    (k3 : ∀ W, Below w.heap.size w W → Calls Tryz.prog 16 #[.slice none 0 0, V10 kd g x0 x1 x2 x3 bi s la n lc ka m kc] W fun e w' => ∃ v' r, e = .returned v' ∧ Bo w' w.heap.size v' r ∧ Onto W w' (.slice none 0 0) v' ∧ 65536 < r.length ∧ r.length ≤ 1000000) :
    Calls Tryz.prog 10 #[V10 kd g x0 x1 x2 x3 bi s la n lc ka m kc] w fun e w' => e = .returned (.tuple #[.slice none 0 0, .int .i64 8]) ∧ Below w.heap.size w w' := by
  have K1 := Lib.hid k1; have K2 := Lib.hid k2
  have K3 : Hid (∀ W, Below w.heap.size w W → Calls Tryz.prog 16 #[.slice none 0 0, V10 kd g x0 x1 x2 x3 bi s la n lc ka m kc] W fun e w' => ∃ (gg cap N : Nat), e = .returned (.slice (some ⟨gg, 0, none⟩) N cap) ∧ (65536 : Int) < (N : Int) ∧ (N : Int) ≤ 1000000 ∧ Below w.heap.size w w') := by
    intro W hW
    refine (k3 W hW).mono ?_
    rintro e w' ⟨v', r, rfl, hB, hO, h1, h2⟩
    obtain ⟨gg, cap, rfl, _⟩ := hB.some (by omega)
    exact ⟨gg, cap, r.length, rfl, by omega, by omega, btr hW (hO.frame (Nat.le_refl _) (Bo.nil _ _))⟩
  clear k1 k2 k3
  have B0 := Lib.hid (bal (Below.refl _ w) (.cells #[.int .i64 kd, .bool g, .int .u64 x0, .int .u64 x1, .int .u64 x2, .int .u64 x3, .int .u64 bi, .string s, .slice la n lc, .slice ka m kc] 32))
  have R0 := Lib.hid (Row10.new w (.int .i64 kd) (.bool g) (.int .u64 x0) (.int .u64 x1) (.int .u64 x2) (.int .u64 x3) (.int .u64 bi) (.string s) (.slice la n lc) (.slice ka m kc))
  go_enter Tryz.func10, Tryz.ntmps10
  go_wp2_with (first
    | (go_at_call 12; ((with_reducible refine (K1.out _ B0.out).mono ?_); rintro e w1 ⟨rfl, hb⟩; have B1 := Lib.hid (btr B0.out hb); have R1 := Lib.hid (Row10.keep hb R0.out); obtain ⟨p0, p1, p2, p3, p4, p5, p6, p7, p8, p9⟩ := R1.out.parts; clear hb))
    | (go_at_call 15; ((with_reducible refine (K2.out _ B1.out).mono ?_); rintro e w2 ⟨rfl, hb⟩; have B2 := Lib.hid (btr B1.out hb); have R2 := Lib.hid (Row10.keep hb R1.out); obtain ⟨p0, p1, p2, p3, p4, p5, p6, p7, p8, p9⟩ := R2.out.parts; clear hb))
    | (go_at_call 16; ((with_reducible refine (K3.out _ B2.out).mono ?_); rintro e w3 ⟨gg, cap, N, rfl, h1, h2, hb3⟩)))
  go_ret2
  exact ⟨rfl, hb3⟩
set_option maxRecDepth 100000 in
theorem jenc_ok (B : List UInt8) (h0 : 0 < B.length) (h1 : B.length ≤ 65536)
    (k3 : ∀ W, Below w.heap.size w W → Calls Tryz.prog 16 #[.slice none 0 0, V10 kd g x0 x1 x2 x3 bi s la n lc ka m kc] W fun e w' => ∃ v', e = .returned v' ∧ Bo w' w.heap.size v' B ∧ Onto W w' (.slice none 0 0) v') :
    Calls Tryz.prog 10 #[V10 kd g x0 x1 x2 x3 bi s la n lc ka m kc] w fun e w' => ∃ v', e = .returned (.tuple #[v', .int .i64 0]) ∧ Bo w' w.heap.size v' B ∧ Below w.heap.size w w' := by
  have K1 := Lib.hid k1; have K2 := Lib.hid k2
  obtain ⟨N, hN⟩ : ∃ N, B.length = N := ⟨_, rfl⟩
  have K3 : Hid (∀ W, Below w.heap.size w W → Calls Tryz.prog 16 #[.slice none 0 0, V10 kd g x0 x1 x2 x3 bi s la n lc ka m kc] W fun e w' => ∃ gg cap, e = .returned (.slice (some ⟨gg, 0, none⟩) N cap) ∧ Bo w' w.heap.size (.slice (some ⟨gg, 0, none⟩) N cap) B ∧ Onto W w' (.slice none 0 0) (.slice (some ⟨gg, 0, none⟩) N cap)) := by
    intro W hW
    refine (k3 W hW).mono ?_
    rintro e w' ⟨v', rfl, hB, hO⟩
    obtain ⟨gg, cap, rfl, _⟩ := hB.some h0
    rw [hN] at *
    exact ⟨gg, cap, rfl, hB, hO⟩
  rw [hN] at h0 h1
  clear k1 k2 k3 hN
  have h2 : ¬ (65536 : Int) < (N : Int) := by omega
  have B0 := Lib.hid (bal (Below.refl _ w) (.cells #[.int .i64 kd, .bool g, .int .u64 x0, .int .u64 x1, .int .u64 x2, .int .u64 x3, .int .u64 bi, .string s, .slice la n lc, .slice ka m kc] 32))
  have R0 := Lib.hid (Row10.new w (.int .i64 kd) (.bool g) (.int .u64 x0) (.int .u64 x1) (.int .u64 x2) (.int .u64 x3) (.int .u64 bi) (.string s) (.slice la n lc) (.slice ka m kc))
  go_enter Tryz.func10, Tryz.ntmps10
  go_wp2_with (first
    | (go_at_call 12; ((with_reducible refine (K1.out _ B0.out).mono ?_); rintro e w1 ⟨rfl, hb⟩; have B1 := Lib.hid (btr B0.out hb); have R1 := Lib.hid (Row10.keep hb R0.out); obtain ⟨p0, p1, p2, p3, p4, p5, p6, p7, p8, p9⟩ := R1.out.parts; clear hb))
    | (go_at_call 15; ((with_reducible refine (K2.out _ B1.out).mono ?_); rintro e w2 ⟨rfl, hb⟩; have B2 := Lib.hid (btr B1.out hb); have R2 := Lib.hid (Row10.keep hb R1.out); obtain ⟨p0, p1, p2, p3, p4, p5, p6, p7, p8, p9⟩ := R2.out.parts; clear hb))
    | (go_at_call 16; ((with_reducible refine (K3.out _ B2.out).mono ?_); rintro e w3 ⟨gg, cap, rfl, B3, O3⟩)))
  go_ret2
  exact ⟨_, rfl, B3, btr B2.out (O3.frame (Nat.le_refl _) (Bo.nil _ _))⟩
end
/-- What Encode answers. -/
def JEncIs (T : VT) (e : Ending) (w' : World) (N : Nat) : Prop :=
  (mayN T ≠ 0 ∧ e = .returned (.tuple #[.slice none 0 0, .int .i64 (mayN T)])) ∨ (mayN T = 0 ∧ hasT notJsonT T = true ∧ e = .returned (.tuple #[.slice none 0 0, .int .i64 5])) ∨
  (mayN T = 0 ∧ hasT notJsonT T = false ∧ 65536 < (jencT T).length ∧ e = .returned (.tuple #[.slice none 0 0, .int .i64 8])) ∨
  (mayN T = 0 ∧ hasT notJsonT T = false ∧ (jencT T).length ≤ 65536 ∧ ∃ g cap, e = .returned (.tuple #[.slice (some ⟨g, 0, none⟩) (jencT T).length cap, .int .i64 0]) ∧ N ≤ g ∧ BytesAt w' g 0 (jencT T))
theorem jencT_pos : ∀ T, 0 < (jencT T).length := by
  intro T
  obtain ⟨o, kids⟩ := T
  rw [jencT_mk]
  unfold jO
  split
  · split <;> simp
  split
  · unfold jint; rw [List.length_append]; have := dec_pos o.x; omega
  split
  · unfold ptx wpt; simp only [List.length_append, List.length_cons, List.length_nil]; omega
  split
  · unfold jq; simp
  split
  · simp
  split
  · simp
  · simp
/-- Encode of every value. -/
theorem jenc_any (T : VT) (hn : T.nodes ≤ 10000) (w : World) (hQ : Qv T w) (hT : Tabs w) : Calls Tryz.prog 10 #[T.val] w fun e w' => JEncIs T e w' w.heap.size ∧ Below w.heap.size w w' := by
  have k1 := fun W (hb : Below w.heap.size w W) => vmay T hn W (hQ.keep hb)
  have k2 := fun W (hb : Below w.heap.size w W) => vin T hn 1 W (hQ.keep hb)
  by_cases h0 : mayN T = 0
  · obtain ⟨hG, hd⟩ := gd_of hQ.ins h0
    rw [h0] at k1
    have hin : inB T 1 = !hasT notJsonT T := by unfold inB; rw [if_pos h0, if_pos rfl]
    rw [hin] at k2
    cases hj : hasT notJsonT T with
    | true =>
      rw [hj] at k2
      refine (jenc_out _ _ _ _ _ _ _ _ _ _ _ _ _ _ w k1 k2).mono ?_
      rintro e w' ⟨rfl, hb⟩
      exact ⟨Or.inr (Or.inl ⟨h0, hj, rfl⟩), hb⟩
    | false =>
      rw [hj] at k2
      have av := jvs_any T w hQ.ins hT hG hj hd
      have k3 := fun W (hb : Below w.heap.size w W) => av W hb w.heap.size (.slice none 0 0) [] (Nat.le_refl _) hb.size (Bo.nil _ _) (by rw [List.length_nil]; omega)
      by_cases h1 : (jencT T).length ≤ 65536
      · refine (jenc_ok _ _ _ _ _ _ _ _ _ _ _ _ _ _ w k1 k2 (jencT T) (jencT_pos T) h1 (fun W hb => (k3 W hb).mono ?_)).mono ?_
        · rintro e w' ⟨v', r, rfl, hB, hO, hL⟩
          rw [hL.told.1 h1] at hB
          exact ⟨v', rfl, hB, hO⟩
        · rintro e w' ⟨v', rfl, hB, hb⟩
          obtain ⟨g, cap, rfl, hg, _, _, _, hc⟩ := hB.some (jencT_pos T)
          exact ⟨Or.inr (Or.inr (Or.inr ⟨h0, hj, h1, g, cap, rfl, hg, fun i b hi => by rw [Nat.zero_add]; exact hc i b hi⟩)), hb⟩
      · refine (jenc_long _ _ _ _ _ _ _ _ _ _ _ _ _ _ w k1 k2 (fun W hb => (k3 W hb).mono ?_)).mono ?_
        · rintro e w' ⟨v', r, rfl, hB, hO, hL⟩
          exact ⟨v', r, rfl, hB, hO, hL.told.2.1 (by omega), by have := hL.told.2.2; omega⟩
        · rintro e w' ⟨rfl, hb⟩
          exact ⟨Or.inr (Or.inr (Or.inl ⟨h0, hj, by omega, rfl⟩)), hb⟩
  · refine (jenc_no _ _ _ _ _ _ _ _ _ _ _ _ _ _ w _ h0 k1).mono ?_
    rintro e w' ⟨rfl, hb⟩
    exact ⟨Or.inl ⟨h0, rfl⟩, hb⟩
end Go.Proofs.YtebfggiodhaahaaGreatDoor
end
