/-
  R6Ins R6Item R6App R6Ord R6Len R6EncA, one behind the other: a claim holds at most 60 files.
-/
import Derived.Test.YtfaaagmjmljhiaaGreatDoorGY
import Derived.Test.YtfaaagmjmljhiaaGreatDoorGK
import Derived.Laws.OwnMore
import Derived.Deep.AppendLies
import Derived.Deep.CutBlock
import Derived.Test.YtfaaagmjmljhiaaGreatDoorGW
import Derived.Test.YtfaaagmjmljhiaaGreatDoorGO
section
namespace Go.Proofs.YtfaaagmjmljhiaaGreatDoor
open Go.RowKit Go.Shelf

theorem bytesLess_bl : ∀ x y : List UInt8, Op.bytesLess x y = decide (lexc (bl x) (bl y) = -1)
  | [], [] => rfl
  | _ :: _, [] => rfl
  | [], _ :: _ => rfl
  | a :: x, b :: y => by
    rw [Op.bytesLess, bl_cons, bl_cons, lexc, bytesLess_bl x y]
    by_cases h1 : a < b
    · have h2 : (a.toNat : Int) < b.toNat := Int.ofNat_lt.2 (UInt8.lt_iff_toNat_lt.1 h1)
      rw [if_pos h2, decide_eq_true h1]; rfl
    · have h2 : ¬ (a.toNat : Int) < b.toNat := fun h => h1 (UInt8.lt_iff_toNat_lt.2 (Int.ofNat_lt.1 h))
      rw [if_neg h2, decide_eq_false h1, Bool.false_or]
      by_cases h3 : a = b
      · subst h3
        rw [if_neg (by omega)]
        simp
      · have h4 : (b.toNat : Int) < a.toNat := by
          have h5 : a.toNat ≠ b.toNat := fun h => h3 (UInt8.toNat_inj.1 h)
          omega
        rw [if_pos h4, beq_eq_false_iff_ne.2 h3]; rfl
theorem bl_app (x y : List UInt8) : bl (x ++ y) = bl x ++ bl y := by simp [bl]
theorem cq_lt {a b : Int} (h : a < b) : Lib.compareInt a b = -1 := by unfold Lib.compareInt; rw [if_pos h]
theorem cq_gt {a b : Int} (h : b < a) : Lib.compareInt a b = 1 := by unfold Lib.compareInt; rw [if_neg (by omega), if_pos h]
theorem cq_eq {a b : Int} (h : a = b) : Lib.compareInt a b = 0 := by unfold Lib.compareInt; rw [if_neg (by omega), if_neg (by omega)]
theorem hv_1 {m : Nat} (h : m < 24) : bl (hds 3 m) = [96 + (m : Int)] := by
  have e : sinf m = m := by unfold sinf; rw [if_pos h]
  unfold hds hby
  rw [e, hsz_low h, be_zero]
  show [((UInt8.ofNat (3 * 32 + m)).toNat : Int)] = _
  rw [UInt8.toNat_ofNat', Nat.mod_eq_of_lt (by omega)]
  exact congrArg (fun q : Int => [q]) (by omega)
theorem hv_2 {m : Nat} (h1 : 24 ≤ m) (h2 : m < 256) : bl (hds 3 m) = [120, (m : Int)] := by
  have e : sinf m = 24 := by unfold sinf; rw [if_neg (by omega), if_pos h2]
  unfold hds hby
  rw [e, hsz_24, be_succ, be_zero]
  show [((UInt8.ofNat (3 * 32 + 24)).toNat : Int), ((UInt8.ofNat (m / 256 ^ 0)).toNat : Int)] = _
  rw [UInt8.toNat_ofNat', UInt8.toNat_ofNat', Nat.pow_zero, Nat.div_one, Nat.mod_eq_of_lt (show m < 2 ^ 8 by omega)]
  rfl
theorem hv_3 {m : Nat} (h1 : 256 ≤ m) (h2 : m < 65536) : bl (hds 3 m) = [121, ((m / 256 : Nat) : Int), ((m % 256 : Nat) : Int)] := by
  have e : sinf m = 25 := by unfold sinf; rw [if_neg (by omega), if_neg (by omega), if_pos h2]
  unfold hds hby
  rw [e, hsz_25, be_succ, be_succ, be_zero]
  show [((UInt8.ofNat (3 * 32 + 25)).toNat : Int), ((UInt8.ofNat (m / 256 ^ 1)).toNat : Int), ((UInt8.ofNat (m / 256 ^ 0)).toNat : Int)] = _
  rw [UInt8.toNat_ofNat', UInt8.toNat_ofNat', UInt8.toNat_ofNat', Nat.pow_zero, Nat.div_one, Nat.pow_one, Nat.mod_eq_of_lt (show m / 256 < 2 ^ 8 by omega)]
  rfl
/-- A head ahead of what follows: the lengths first. -/
theorem lexc_head {m n : Nat} (hm : m < 65536) (hn : n < 65536) (u v : List Int) : lexc (bl (hds 3 m) ++ u) (bl (hds 3 n) ++ v) = ord (Lib.compareInt (m : Int) (n : Int)) (lexc u v) := by
  have o1 : ∀ r, ord (-1) r = -1 := fun r => ord_ne (by decide)
  have o2 : ∀ r, ord 1 r = 1 := fun r => ord_ne (by decide)
  by_cases a1 : m < 24
  · rw [hv_1 a1]
    by_cases b1 : n < 24
    · rw [hv_1 b1]
      show lexc ((96 + (m : Int)) :: u) ((96 + (n : Int)) :: v) = _
      rw [lexc_cons]
      rcases Nat.lt_trichotomy m n with h | h | h
      · rw [cq_lt (by omega), cq_lt (by omega)]
      · rw [cq_eq (by omega), cq_eq (by omega)]
      · rw [cq_gt (by omega), cq_gt (by omega)]
    · have h : (m : Int) < n := by omega
      rw [cq_lt h, o1]
      by_cases b2 : n < 256
      · rw [hv_2 (by omega) b2]
        show lexc ((96 + (m : Int)) :: u) (120 :: ((n : Int) :: v)) = _
        rw [lexc_cons, cq_lt (by omega), o1]
      · rw [hv_3 (by omega) hn]
        show lexc ((96 + (m : Int)) :: u) (121 :: _) = _
        rw [lexc_cons, cq_lt (by omega), o1]
  · by_cases a2 : m < 256
    · rw [hv_2 (by omega) a2]
      by_cases b1 : n < 24
      · have h : (n : Int) < m := by omega
        rw [cq_gt h, o2, hv_1 b1]
        show lexc (120 :: _) ((96 + (n : Int)) :: v) = _
        rw [lexc_cons, cq_gt (by omega), o2]
      · by_cases b2 : n < 256
        · rw [hv_2 (by omega) b2]
          show lexc (120 :: ((m : Int) :: u)) (120 :: ((n : Int) :: v)) = _
          rw [lexc_cons, cq_eq rfl, ord_zero, lexc_cons]
        · have h : (m : Int) < n := by omega
          rw [cq_lt h, o1, hv_3 (by omega) hn]
          show lexc (120 :: _) (121 :: _) = _
          rw [lexc_cons, cq_lt (by omega), o1]
    · rw [hv_3 (by omega) hm]
      by_cases b1 : n < 24
      · have h : (n : Int) < m := by omega
        rw [cq_gt h, o2, hv_1 b1]
        show lexc (121 :: _) ((96 + (n : Int)) :: v) = _
        rw [lexc_cons, cq_gt (by omega), o2]
      · by_cases b2 : n < 256
        · have h : (n : Int) < m := by omega
          rw [cq_gt h, o2, hv_2 (by omega) b2]
          show lexc (121 :: _) (120 :: _) = _
          rw [lexc_cons, cq_gt (by omega), o2]
        · rw [hv_3 (by omega) hn]
          show lexc (121 :: (((m / 256 : Nat) : Int) :: (((m % 256 : Nat) : Int) :: u))) (121 :: (((n / 256 : Nat) : Int) :: (((n % 256 : Nat) : Int) :: v))) = _
          rw [lexc_cons, cq_eq rfl, ord_zero, lexc_cons, lexc_cons]
          rcases Nat.lt_trichotomy (m / 256) (n / 256) with h | h | h
          · rw [cq_lt (show ((m / 256 : Nat) : Int) < (n / 256 : Nat) by omega), cq_lt (show (m : Int) < n by omega), o1, o1]
          · rw [cq_eq (show ((m / 256 : Nat) : Int) = (n / 256 : Nat) by omega), ord_zero]
            rcases Nat.lt_trichotomy (m % 256) (n % 256) with g | g | g
            · rw [cq_lt (show ((m % 256 : Nat) : Int) < (n % 256 : Nat) by omega), cq_lt (show (m : Int) < n by omega)]
            · rw [cq_eq (show ((m % 256 : Nat) : Int) = (n % 256 : Nat) by omega), cq_eq (show (m : Int) = n by omega)]
            · rw [cq_gt (show ((n % 256 : Nat) : Int) < (m % 256 : Nat) by omega), cq_gt (show (n : Int) < m by omega)]
          · rw [cq_gt (show ((n / 256 : Nat) : Int) < (m / 256 : Nat) by omega), cq_gt (show (n : Int) < m by omega), o2, o2]
/-- A name's bytes in a map. -/
def kb8 (s : ByteArray) : List UInt8 := hds 3 s.size ++ s.data.toList
theorem less_kb8 {a b : ByteArray} (ha : a.size < 65536) (hb : b.size < 65536) : Op.bytesLess (kb8 a) (kb8 b) = decide (lexc (kl a) (kl b) = -1) := by
  rw [bytesLess_bl]
  unfold kb8 kl
  rw [bl_app, bl_app, lexc_head ha hb, lexc_cons]

theorem insK_take (f : Nat → List Int) (x : Nat) (B : List Nat) (hB : ∀ y ∈ B, lexc (f x) (f y) = -1) : ∀ A : List Nat, (∀ y ∈ A, lexc (f x) (f y) ≠ -1) → insK f x (A ++ B) = A ++ x :: B
  | [], _ => by
    cases B with
    | nil => rfl
    | cons b B =>
      show (if lexc (f x) (f b) = -1 then x :: b :: B else b :: insK f x B) = _
      rw [if_pos (hB b (List.mem_cons_self ..))]
      rfl
  | a :: A, h => by
    show (if lexc (f x) (f a) = -1 then x :: a :: (A ++ B) else a :: insK f x (A ++ B)) = _
    rw [if_neg (h a (List.mem_cons_self ..)), insK_take f x B hB A fun y hy => h y (List.mem_cons_of_mem _ hy)]
    rfl
/-- Where the scan from the end stops, the name goes. -/
theorem ins_at (f : Nat → List Int) (x : Nat) (P : List Nat) (hP : Rises f P) (hx : ∀ y ∈ P, lexc (f x) (f y) ≠ 0) (k : Nat) (hk : k ≤ P.length) (hB : ∀ y ∈ P.drop k, lexc (f x) (f y) = -1)
    (hs : k = 0 ∨ ∃ y, P[k - 1]? = some y ∧ lexc (f x) (f y) ≠ -1) : insK f x P = P.take k ++ x :: P.drop k := by
  conv => lhs; rw [← List.take_append_drop k P]
  refine insK_take f x _ hB _ fun y hy => ?_
  rcases hs with rfl | ⟨z, hz, hne⟩
  · simp at hy
  · rcases Nat.eq_zero_or_pos k with h0 | h0
    · subst h0; simp at hy
    · obtain ⟨i, hi⟩ := List.getElem?_of_mem hy
      rw [List.getElem?_take] at hi
      split at hi
      · rename_i hik
        by_cases e : i = k - 1
        · rw [e, hz] at hi
          cases hi
          exact hne
        · have hi' := List.getElem?_eq_some_iff.1 hi
          have hz' := List.getElem?_eq_some_iff.1 hz
          have h1 := List.pairwise_iff_getElem.1 hP i (k - 1) hi'.1 hz'.1 (by omega)
          rw [hi'.2, hz'.2] at h1
          have h2 : lexc (f z) (f x) = -1 := by
            have h3 := lexc_three (f x) (f z)
            have h4 := hx z (List.mem_of_getElem? hz)
            rw [lexc_anti]
            omega
          have h5 := lexc_less _ _ _ h1 h2
          rw [lexc_anti] at h5
          omega
      · cases hi
end Go.Proofs.YtfaaagmjmljhiaaGreatDoor
end
section
namespace Go.Proofs.YtfaaagmjmljhiaaGreatDoor
open Go.RowKit Go.Shelf
open Go.Sort (grow)
set_option linter.unusedVariables false

theorem alloc2_new (W : World) (o o' : Obj) : ((W.alloc o).alloc o').heap[W.heap.size + 1]? = some o' := by
  have h := heap_alloc_new (W.alloc o) o'
  have hs : (W.alloc o).heap.size = W.heap.size + 1 := by simp
  rwa [hs] at h
section
variable (g : Bool) (x0 x1 x2 x3 : Int) (la : Option Addr) (n lc : Nat) (ka : Option Addr) (m kc : Nat) (w : World)
set_option maxRecDepth 100000 in
theorem ritem_null (bi : Int) (s : ByteArray) : Calls Tryz.prog 20 #[V10 1 g x0 x1 x2 x3 bi s la n lc ka m kc] w fun e w' => e = .returned (.string (str (hds 7 22))) ∧ Below w.heap.size w w' := by
  have e : (⟨#[246]⟩ : ByteArray) = str (hds 7 22) := by decide
  obtain ⟨S, hS⟩ : ∃ S, str (hds 7 22) = S := ⟨_, rfl⟩
  rw [hS] at e ⊢
  have HS := Lib.hid e
  clear hS e
  go_enter Tryz.func20, Tryz.ntmps20
  go_wp2
  go_ret
  exact ⟨by rw [← HS.out]; rfl, bal (Below.refl _ _) _⟩
set_option maxRecDepth 100000 in
theorem ritem_bool (b : Int) (h0 : 0 ≤ b) (h1 : b ≤ 1) (s : ByteArray) : Calls Tryz.prog 20 #[V10 2 g x0 x1 x2 x3 b s la n lc ka m kc] w fun e w' => e = .returned (.string (str (hds 7 (20 + b.toNat)))) ∧ Below w.heap.size w w' := by
  rcases (show b = 0 ∨ b = 1 by omega) with rfl | rfl
  · have hcv := conv_bytes ((w.alloc (.cells #[.int .i64 2, .bool g, .int .u64 x0, .int .u64 x1, .int .u64 x2, .int .u64 x3, .int .u64 0, .string s, .slice la n lc, .slice ka m kc] 33)).alloc (.cells #[.int .u8 244] 5)) (w.heap.size + 1) 0 1 [244] (fun i b hi => by
      cases i with
      | zero =>
        simp at hi
        subst hi
        exact cell_of_row _ _ 0 _ _ _ (alloc2_new _ _ _)
      | succ i => simp at hi) 1 rfl
    have e : str (hds 7 (20 + (0 : Int).toNat)) = str [244] := by decide
    rw [e]
    go_enter Tryz.func20, Tryz.ntmps20
    go_wp2
    go_ret
    exact ⟨rfl, bal (bal (Below.refl _ _) _) _⟩
  · have hcv := conv_bytes ((w.alloc (.cells #[.int .i64 2, .bool g, .int .u64 x0, .int .u64 x1, .int .u64 x2, .int .u64 x3, .int .u64 1, .string s, .slice la n lc, .slice ka m kc] 33)).alloc (.cells #[.int .u8 245] 5)) (w.heap.size + 1) 0 1 [245] (fun i b hi => by
      cases i with
      | zero =>
        simp at hi
        subst hi
        exact cell_of_row _ _ 0 _ _ _ (alloc2_new _ _ _)
      | succ i => simp at hi) 1 rfl
    have e : str (hds 7 (20 + (1 : Int).toNat)) = str [245] := by decide
    rw [e]
    go_enter Tryz.func20, Tryz.ntmps20
    go_wp2
    go_ret
    exact ⟨rfl, bal (bal (Below.refl _ _) _) _⟩
set_option maxRecDepth 100000 in
theorem ritem_whole (S : ByteArray) (bi : Int) (s : ByteArray) (kw : ∀ W, Calls Tryz.prog 37 #[.agg #[.bool g, .int .u64 x0, .int .u64 x1, .int .u64 x2, .int .u64 x3]] W fun e w' => e = .returned (.string S) ∧ Below W.heap.size W w') :
    Calls Tryz.prog 20 #[V10 3 g x0 x1 x2 x3 bi s la n lc ka m kc] w fun e w' => e = .returned (.string S) ∧ Below w.heap.size w w' := by
  have KW := Lib.hid kw
  clear kw
  go_enter Tryz.func20, Tryz.ntmps20
  go_wp2_with fail
  ((with_reducible refine (KW.out _).mono ?_); rintro e w1 ⟨rfl, hb⟩)
  go_wp2
  go_ret
  exact ⟨rfl, btr (bal (Below.refl _ _) _) hb⟩
set_option maxRecDepth 100000 in
theorem ritem_float (S : ByteArray) (bi : Int) (s : ByteArray) (kw : ∀ W, Calls Tryz.prog 38 #[.int .u64 bi] W fun e w' => e = .returned (.string S) ∧ Below W.heap.size W w') :
    Calls Tryz.prog 20 #[V10 4 g x0 x1 x2 x3 bi s la n lc ka m kc] w fun e w' => e = .returned (.string S) ∧ Below w.heap.size w w' := by
  have KW := Lib.hid kw
  clear kw
  go_enter Tryz.func20, Tryz.ntmps20
  go_wp2_with fail
  ((with_reducible refine (KW.out _).mono ?_); rintro e w1 ⟨rfl, hb⟩)
  go_wp2
  go_ret
  exact ⟨rfl, btr (bal (Below.refl _ _) _) hb⟩
set_option maxRecDepth 100000 in
set_option maxHeartbeats 4000000 in
theorem ritem_text (k mm : Int) (hk : k = 5 ∧ mm = 3 ∨ k = 6 ∧ mm = 2) (U : ByteArray) (hU : (U.size : Int) ≤ 8388608) (bi : Int) (s : ByteArray) (hs : (s.size : Int) ≤ 8388608) (kw : ∀ W, Calls Tryz.prog 13 #[.int .i64 mm, .int .u64 (s.size : Nat)] W fun e w' => e = .returned (.string U) ∧ Below W.heap.size W w') :
    Calls Tryz.prog 20 #[V10 k g x0 x1 x2 x3 bi s la n lc ka m kc] w fun e w' => e = .returned (.string (U ++ s)) ∧ Below w.heap.size w w' := by
  have KW := Lib.hid kw
  clear kw
  rcases hk with ⟨rfl, rfl⟩ | ⟨rfl, rfl⟩
  · have R0 := Row10.new w (.int .i64 5) (.bool g) (.int .u64 x0) (.int .u64 x1) (.int .u64 x2) (.int .u64 x3) (.int .u64 bi) (.string s) (.slice la n lc) (.slice ka m kc)
    have c7 := R0.parts.2.2.2.2.2.2.2.1
    have B0 := Lib.hid (bal (Below.refl w.heap.size w) (.cells #[.int .i64 5, .bool g, .int .u64 x0, .int .u64 x1, .int .u64 x2, .int .u64 x3, .int .u64 bi, .string s, .slice la n lc, .slice ka m kc] 33))
    go_enter Tryz.func20, Tryz.ntmps20
    go_upto_region 11 with (fail)
    have r7 := cell_regrown c7
    clear c7
    have cq0 := fun (d : Nat) (os : Array Obj) => Calls.regrown_of (w := w.alloc (.cells #[.int .i64 5, .bool g, .int .u64 x0, .int .u64 x1, .int .u64 x2, .int .u64 x3, .int .u64 bi, .string s, .slice la n lc, .slice ka m kc] 33)) (d := d) (os := os) (KW.out _)
    refine wp_region_quiet_below (by kernel_rfl) (by kernel_rfl) ?_
    repeat (first | go_big_quiet_step (with_reducible exact cq0 _ _) | quiet_step (with_reducible exact cq0 _ _))
    refine wpQuiet_nil ?_
    intro _ hw'
    obtain ⟨⟨dq, osq⟩, hw''⟩ := hw'
    subst hw''
    have BX := Lib.hid (btr B0.out (below_regrown (w.alloc (.cells #[.int .i64 5, .bool g, .int .u64 x0, .int .u64 x1, .int .u64 x2, .int .u64 x3, .int .u64 bi, .string s, .slice la n lc, .slice ka m kc] 33)) dq osq))
    clear r7 cq0
    generalize grow (redrawn (w.alloc (.cells #[.int .i64 5, .bool g, .int .u64 x0, .int .u64 x1, .int .u64 x2, .int .u64 x3, .int .u64 bi, .string s, .slice la n lc, .slice ka m kc] 33)) dq) osq = w5 at *
    go_wp2
    go_ret
    exact ⟨rfl, BX.out⟩
  · have R0 := Row10.new w (.int .i64 6) (.bool g) (.int .u64 x0) (.int .u64 x1) (.int .u64 x2) (.int .u64 x3) (.int .u64 bi) (.string s) (.slice la n lc) (.slice ka m kc)
    have c7 := R0.parts.2.2.2.2.2.2.2.1
    have B0 := Lib.hid (bal (Below.refl w.heap.size w) (.cells #[.int .i64 6, .bool g, .int .u64 x0, .int .u64 x1, .int .u64 x2, .int .u64 x3, .int .u64 bi, .string s, .slice la n lc, .slice ka m kc] 33))
    go_enter Tryz.func20, Tryz.ntmps20
    go_upto_region 13 with (fail)
    have r7 := cell_regrown c7
    clear c7
    have cq0 := fun (d : Nat) (os : Array Obj) => Calls.regrown_of (w := w.alloc (.cells #[.int .i64 6, .bool g, .int .u64 x0, .int .u64 x1, .int .u64 x2, .int .u64 x3, .int .u64 bi, .string s, .slice la n lc, .slice ka m kc] 33)) (d := d) (os := os) (KW.out _)
    refine wp_region_quiet_below (by kernel_rfl) (by kernel_rfl) ?_
    repeat (first | go_big_quiet_step (with_reducible exact cq0 _ _) | quiet_step (with_reducible exact cq0 _ _))
    refine wpQuiet_nil ?_
    intro _ hw'
    obtain ⟨⟨dq, osq⟩, hw''⟩ := hw'
    subst hw''
    have BX := Lib.hid (btr B0.out (below_regrown (w.alloc (.cells #[.int .i64 6, .bool g, .int .u64 x0, .int .u64 x1, .int .u64 x2, .int .u64 x3, .int .u64 bi, .string s, .slice la n lc, .slice ka m kc] 33)) dq osq))
    clear r7 cq0
    generalize grow (redrawn (w.alloc (.cells #[.int .i64 6, .bool g, .int .u64 x0, .int .u64 x1, .int .u64 x2, .int .u64 x3, .int .u64 bi, .string s, .slice la n lc, .slice ka m kc] 33)) dq) osq = w5 at *
    go_wp2
    go_ret
    exact ⟨rfl, BX.out⟩
end
set_option maxRecDepth 100000 in
set_option maxHeartbeats 4000000 in
/-- item at an array, its elements' contracts given. -/
theorem ritem_arr (g : Bool) (x0 x1 x2 x3 bi : Int) (s : ByteArray) (la : Option Addr) (lc : Nat) (ka : Option Addr) (m kc : Nat) (kids : List VT) (bb off : Nat) (w : World) (hK : Kids w la kids bb off) (hn : kids.length ≤ 1000)
    (hlen : ∀ k, ((kids.map encT).take k).flatten.length ≤ 8000000) (hkl : ∀ t ∈ kids, (encT t).length ≤ 8000000)
    (ih : ∀ t ∈ kids, ∀ W, t.In W → Calls Tryz.prog 20 #[t.val] W fun e w' => e = .returned (.string (str (encT t))) ∧ Below W.heap.size W w') :
    Calls Tryz.prog 20 #[V10 7 g x0 x1 x2 x3 bi s la kids.length lc ka m kc] w fun e w' => e = .returned (.string (str (hds 4 kids.length ++ (kids.map encT).flatten))) ∧ Below w.heap.size w w' := by
  have HK := Lib.hid hK; have IH := Lib.hid ih; have HL := Lib.hid hlen; have HKL := Lib.hid hkl
  obtain ⟨n, hnn⟩ : ∃ n, kids.length = n := ⟨_, rfl⟩
  have HNN := Lib.hid hnn
  rw [hnn] at hn ⊢
  obtain ⟨E, hE⟩ : ∃ E, kids.map encT = E := ⟨_, rfl⟩
  have HE : Hid (∀ (k : Nat) (t : VT), kids[k]? = some t → E[k]? = some (encT t)) := fun k t ht => by rw [← hE, List.getElem?_map, ht]; rfl
  have HEL : Hid (E.length = n) := by show _ = _; rw [← hE, List.length_map]; exact hnn
  rw [hE] at HL ⊢
  obtain ⟨F, hF⟩ : ∃ F, hds 4 n = F := ⟨_, rfl⟩
  have HF9 := Lib.hid (hds_len 4 n)
  obtain ⟨S0, hS0⟩ : ∃ S, str F = S := ⟨_, rfl⟩
  have KH : Hid (∀ W, Calls Tryz.prog 13 #[.int .i64 4, .int .u64 (n : Nat)] W fun e w' => e = .returned (.string S0) ∧ Below W.heap.size W w') := Lib.hid (fun W => by rw [← hS0, ← hF]; exact rhead 4 n (by decide) (by omega) W)
  rw [hF] at HF9 ⊢
  have HS0 := Lib.hid hS0
  have R0 := Lib.hid (Row10.new w (.int .i64 7) (.bool g) (.int .u64 x0) (.int .u64 x1) (.int .u64 x2) (.int .u64 x3) (.int .u64 bi) (.string s) (.slice la n lc) (.slice ka m kc))
  have B0 := Lib.hid (bal (Below.refl w.heap.size w) (.cells #[.int .i64 7, .bool g, .int .u64 x0, .int .u64 x1, .int .u64 x2, .int .u64 x3, .int .u64 bi, .string s, .slice la n lc, .slice ka m kc] 33))
  clear hK ih hlen hkl hnn hE hF hS0
  go_enter Tryz.func20, Tryz.ntmps20
  go_wp2_with fail
  ((with_reducible refine (KH.out _).mono ?_); rintro e w1 ⟨rfl, hb⟩)
  have HR1 := Lib.hid (Row10.keep hb R0.out)
  have HB1 := Lib.hid (btr B0.out hb)
  clear hb
  go_wp2
  go_loopw [3, 4] (fun sv iv wr => ∃ (k : Nat) (S : ByteArray), k ≤ n ∧ iv = .int .i64 k ∧ sv = .string S ∧ (S.size : Int) ≤ 8388608 ∧ Hid (S = str (F ++ (E.take k).flatten)) ∧ Hid (Below w.heap.size w wr) ∧ Hid (Row10 wr w.heap.size (.int .i64 7) (.bool g) (.int .u64 x0) (.int .u64 x1) (.int .u64 x2) (.int .u64 x3) (.int .u64 bi) (.string s) (.slice la n lc) (.slice ka m kc))) (fun _ iv _ => n - (intOf iv).toNat)
  case atStart =>
    refine ⟨0, S0, Nat.zero_le _, rfl, rfl, ?_, ?_, HB1, HR1⟩
    · rw [← HS0.out, str_size]
      have := HF9.out
      omega
    · show S0 = _
      rw [List.take_zero, List.flatten_nil, List.append_nil]
      exact HS0.out.symm
  case round =>
    obtain ⟨k, S, hk, rfl, rfl, hS8, HS, BW, HR⟩ := hrel
    rename World => wr
    obtain ⟨p0, p1, p2, p3, p4, p5, p6, p7, p8, p9⟩ := HR.out.parts
    by_cases hlt : k < n
    · obtain ⟨t, ht, hm⟩ := kid_at (kids := kids) (k := k) (by rw [HNN.out]; exact hlt)
      have hr := (HK.out.cells k t ht).keep BW.out
      obtain rfl : la = some ⟨bb, off, none⟩ := HK.out.la (by rw [HNN.out]; omega)
      have hti := (HK.out.ins k t ht).keep BW.out
      have HEk := Lib.hid (HE.out k t ht)
      have KT := IH.out t hm wr hti
      obtain ⟨Et, hEt⟩ : ∃ Et, encT t = Et := ⟨_, rfl⟩
      have hle : Et.length ≤ 8000000 := by rw [← hEt]; exact HKL.out t hm
      rw [hEt] at KT HEk
      obtain ⟨U, hU⟩ : ∃ U, str Et = U := ⟨_, rfl⟩
      have HU := Lib.hid hU
      have hU8 : (U.size : Int) ≤ 8388608 := by rw [← hU, str_size]; omega
      rw [hU] at KT
      obtain ⟨o2, l2⟩ := t
      obtain ⟨kd2, g2, x2', b2, s2, la2, lc2, ka2, kc2, ks2⟩ := o2
      obtain ⟨c0, c1, c2, c3, c4, c5, c6, c7, c8, c9⟩ := hr.ten
      simp only [VT.val, VT.cells, VT.o_mk, VT.kids_mk] at KT
      have KT' := Lib.hid KT
      have hSn : ((S ++ U).size : Int) ≤ 8388608 := by
        have h1 := HL.out (k + 1)
        rw [flat_next HEk.out] at h1
        rw [HS.out, ← hU, str_app, str_size, List.append_assoc, List.length_append]
        have := HF9.out
        omega
      clear hr hti ht hm KT hEt hU
      have hlt2 : (k : Int) < (n : Int) := by omega
      go_wp2_with fail
      ((with_reducible refine (KT'.out).mono ?_); rintro e w3 ⟨rfl, hb3⟩)
      have HR3 := Lib.hid (Row10.keep hb3 HR.out)
      have HB3 := Lib.hid (btr BW.out hb3)
      clear hb3 p0 p1 p2 p3 p4 p5 p6 p7 p8 p9 c0 c1 c2 c3 c4 c5 c6 c7 c8 c9
      go_wp2
      go_roundw
      case rel => exact ⟨k + 1, S ++ U, by omega, by go_num, rfl, hSn, (by show S ++ U = _; rw [HS.out, ← HU.out, str_app, flat_next HEk.out, List.append_assoc]), HB3, HR3⟩
      case measure => simp [intOf]; omega
    · have hge : ¬ (k : Int) < (n : Int) := by omega
      have hfin : S = str (F ++ E.flatten) := by
        rw [HS.out, List.take_of_length_le (by rw [HEL.out]; omega)]
      have HFIN := Lib.hid hfin
      clear hfin
      go_wp2
      go_ret
      exact ⟨by rw [← HFIN.out]; rfl, BW.out⟩
end Go.Proofs.YtfaaagmjmljhiaaGreatDoor
end
section
namespace Go.Proofs.YtfaaagmjmljhiaaGreatDoor
open Go.RowKit Go.Shelf
set_option linter.unusedVariables false

theorem info_str8 : (Tryz.prog.info? 9).map (fun i => (i.zero, i.size, i.bytes)) = some (some (.string ⟨#[]⟩), 1, 16) := by kernel_rfl
/-- A row of texts that the call owns. -/
def Sr (W : World) (base : Nat) (v : Value) (l : List ByteArray) : Prop := W.ownsRow base 9 1 v l.length (l.map Value.string)
theorem Sr.nil (W : World) (base : Nat) : Sr W base (.slice none 0 0) [] := World.ownsRow_nil _ _ _ _
theorem Sr.keep {W W' : World} {base : Nat} {v : Value} {l : List ByteArray} (h : Sr W base v l) (hb : Below W.heap.size W W') : Sr W' base v l := by
  refine ⟨h.1, ?_⟩
  rcases h.2 with h2 | ⟨g, cap, cur, h3, h4, h5, h6⟩
  · exact Or.inl h2
  · exact Or.inr ⟨g, cap, cur, h3, h4, by rw [hb.block g (Array.getElem?_eq_some_iff.1 h5).1]; exact h5, h6⟩
theorem Sr.mono {W : World} {base base' : Nat} {v : Value} {l : List ByteArray} (h : Sr W base v l) (hb : base' ≤ base) : Sr W base' v l := by
  refine ⟨h.1, ?_⟩
  rcases h.2 with h2 | ⟨g, cap, cur, h3, h4, h5, h6⟩
  · exact Or.inl h2
  · exact Or.inr ⟨g, cap, cur, h3, Nat.le_trans hb h4, h5, h6⟩
theorem Sr.form {W : World} {base : Nat} {v : Value} {l : List ByteArray} (h : Sr W base v l) : (l = [] ∧ v = .slice none 0 0) ∨ ∃ g cap, v = .slice (some ⟨g, 0, none⟩) l.length cap ∧ base ≤ g ∧ g < W.heap.size ∧ l.length ≤ cap ∧ cap ≤ maxLen ∧ ∀ (i : Nat) (s : ByteArray), l[i]? = some s → W.cell? ⟨g, i, none⟩ = some (.string s) := by
  have h' := h
  rcases h.2 with ⟨h2, h3⟩ | ⟨g, cap, cur, h3, h4, h5, h6, h7, _⟩
  · exact Or.inl ⟨List.eq_nil_of_length_eq_zero h3, h2⟩
  · refine Or.inr ⟨g, cap, h3, h4, (Array.getElem?_eq_some_iff.1 h5).1, h6, h7, fun i s hi => ?_⟩
    have := World.ownsRow.cells h' (g := g) (by rw [h3]; rfl) i (.string s) (by rw [List.getElem?_map, hi]; rfl)
    rwa [addr_add, Nat.zero_add] at this
theorem Sr.empty (W : World) (base H : Nat) (h : W.heap.size = H) (hb : base ≤ H) : Sr (W.alloc (.cells #[] 9)) base (.slice (some ⟨H, 0, none⟩) 0 0) [] := by
  have := own_empty6 W 9 1 H h
  exact Sr.mono (l := []) this hb
theorem Sr.alloc {W : World} {base : Nat} {v : Value} {l : List ByteArray} (h : Sr W base v l) (o : Obj) : Sr (W.alloc o) base v l := h.keep (bal (Below.refl _ _) o)
theorem Sr.drew {W : World} {base : Nat} {v : Value} {l : List ByteArray} (h : Sr W base v l) : Sr W.drew base v l := h
theorem hnew8 {W : World} {o : Obj} {B : Nat} (h : W.heap.size = B) : (W.alloc o).heap[B]? = some o := by subst h; exact heap_alloc_new W o
theorem hold8 {W : World} {o o' : Obj} {B : Nat} (h : W.heap[B]? = some o) : (W.alloc o').heap[B]? = some o := (Below.heap_alloc W o' B (Array.getElem?_eq_some_iff.1 h).1).trans h
theorem hdrw8 {W : World} {o : Obj} {B : Nat} (h : W.heap[B]? = some o) : W.drew.heap[B]? = some o := h
theorem hont8 {W W' : World} {v v' : Value} {o : Obj} {B : Nat} (hO : Onto W W' v v') (h : W.heap[B]? = some o) (hne : some B ≠ v.ownBlock) : W'.heap[B]? = some o := (hO.grown.block B (Array.getElem?_eq_some_iff.1 h).1 hne).trans h
theorem hbel8 {W W' : World} {o : Obj} {B : Nat} (hb : Below W.heap.size W W') (h : W.heap[B]? = some o) : W'.heap[B]? = some o := (hb.block B (Array.getElem?_eq_some_iff.1 h).1).trans h
/-- What a slice reads as, that is appended. -/
def Src (w : World) (x : Value) (m : List ByteArray) : Prop := (x = .slice none 0 0 ∧ m = []) ∨ ∃ ad c, x = .slice (some ad) m.length c ∧ ∀ (j : Nat) (s : ByteArray), m[j]? = some s → w.cell? (ad.add j) = some (.string s)
theorem Src.keep {w w' : World} {x : Value} {m : List ByteArray} (h : Src w x m) (hb : Below w.heap.size w w') : Src w' x m := by
  rcases h with h | ⟨ad, c, h1, h2⟩
  · exact Or.inl h
  · exact Or.inr ⟨ad, c, h1, fun j s hj => cell_keep hb (h2 j s hj)⟩
theorem Src.one {w : World} {b c : Nat} {s : ByteArray} (h : w.cell? ⟨b, 0, none⟩ = some (.string s)) : Src w (.slice (some ⟨b, 0, none⟩) 1 c) [s] := by
  refine Or.inr ⟨⟨b, 0, none⟩, c, rfl, fun j u hj => ?_⟩
  cases j with
  | zero =>
    simp at hj
    subst hj
    rw [addr_add]
    exact h
  | succ j => simp at hj
theorem Src.take {w : World} {g c : Nat} {l : List ByteArray} (h : ∀ (i : Nat) (s : ByteArray), l[i]? = some s → w.cell? ⟨g, i, none⟩ = some (.string s)) {k : Nat} (hk : k ≤ l.length) : Src w (.slice (some ⟨g, 0, none⟩) k c) (l.take k) := by
  refine Or.inr ⟨⟨g, 0, none⟩, c, by rw [List.length_take, Nat.min_eq_left hk], fun j s hj => ?_⟩
  rw [addr_add, Nat.zero_add]
  rw [List.getElem?_take] at hj
  split at hj
  · exact h j s hj
  · cases hj
theorem Src.drop {w : World} {g c : Nat} {l : List ByteArray} (h : ∀ (i : Nat) (s : ByteArray), l[i]? = some s → w.cell? ⟨g, i, none⟩ = some (.string s)) (k : Nat) : Src w (.slice (some ⟨g, k, none⟩) (l.length - k) c) (l.drop k) := by
  refine Or.inr ⟨⟨g, k, none⟩, c, by rw [List.length_drop], fun j s hj => ?_⟩
  rw [addr_add]
  rw [List.getElem?_drop] at hj
  exact h _ s hj
theorem Src.none {w : World} {ad : Addr} {c : Nat} : Src w (.slice (some ad) 0 c) [] := Or.inr ⟨ad, c, rfl, fun j s hj => by simp at hj⟩

/-- append, whatever is appended, at a step of a region that draws its order. -/
theorem step_append_gen {w : World} {ops : Array Oper} {o : Oper} {a : Act} {K : Act → World → Prop} {Q : Exit → Act → World → Prop} {E : Prop} (hgd : o.guard = none) (s x : Operand)
    (ho : o.op = .call { callee := .builtin .append, args := #[s, x], argTypes := #[31, 31] })
    (base : Nat) (v : Value) (l : List ByteArray) (hs : a.eval s = v) (hown : Sr w base v l) (xv : Value) (m : List ByteArray) (hx : a.eval x = xv) (hsrc : Src w xv m) (N : Nat) (hN : l.length + m.length = N) (hsz : N ≤ 1000000) (hbase : base ≤ w.heap.size)
    (h : ∀ q c w', Sr w' base (.slice q N c) (l ++ m) → Onto w w' v (.slice q N c) → K (a.put o.dst (.slice q N c)) w') :
    if Region.wanted o (yielded ops a.tmps) = true then Oper.wp Tryz.prog o a w K Q else E := by
  have hw : Region.wanted o (yielded ops a.tmps) = true := by simp [Region.wanted, hgd]
  rw [if_pos hw]
  subst hN
  obtain ⟨i0, hi, hz0, hz1, hz2⟩ := info_at info_str8
  obtain ⟨v', w', hr, h2, h3⟩ : ∃ v' w', (Builtin.append_ #[31, 31] o.type #[v, xv]).run Tryz.prog w = .ok v' w' ∧ Sr w' base v' (l ++ m) ∧ Onto w w' v v' := by
    rcases hsrc with ⟨rfl, rfl⟩ | ⟨ad, c, rfl, hc⟩
    · refine ⟨v, w, run_append_owned_none (P := Tryz.prog) w base 31 o.type 9 i0 1 und_strs hi v l.length (l.map Value.string) hown, ?_, Onto.refl _ _⟩
      rw [List.append_nil]
      exact hown
    · obtain ⟨v', w', hr, h2, h3, _, h5⟩ := run_append_own_at (P := Tryz.prog) w base 31 o.type 9 i0 (.string ⟨#[]⟩) 1 16 und_strs hi hz0 hz1 hz2 rfl (by decide) v l.length (l.map Value.string) hown ad m.length c (m.map Value.string) (by simp) (fun j u hj => by
          rw [List.getElem?_map] at hj
          cases hm : m[j]? with
          | none => rw [hm] at hj; cases hj
          | some t =>
            rw [hm] at hj
            simp at hj
            subst hj
            exact hc j t hm) (fun u hu => by obtain ⟨t, _, rfl⟩ := List.mem_map.1 hu; rfl) (by unfold maxLen; omega) (by omega) hbase
      refine ⟨v', w', hr, ?_, ⟨h3, ?_⟩⟩
      · unfold Sr
        rw [List.length_append, List.map_append]
        exact h2
      · rcases h5 with h5 | h5
        · exact Or.inl h5
        · exact Or.inr ⟨_, h5, Nat.le_refl _⟩
  unfold Oper.wp execOp
  simp only [ho, resolve, invoke, builtin, Sem.run_bind, Sem.run_pure, Result.andThen_ok, List.map_toArray, List.map_cons, List.map_nil, hs, hx, hr]
  have hv : ∃ q c, v' = .slice q (l.length + m.length) c := by
    rcases h2.form with ⟨e1, e2⟩ | ⟨g, cap, e1, _⟩
    · have e3 := congrArg List.length e1
      rw [List.length_append] at e3
      rw [e3]
      exact ⟨_, _, e2⟩
    · rw [List.length_append] at e1
      exact ⟨_, _, e1⟩
  obtain ⟨q, c, rfl⟩ := hv
  exact h q c w' h2 h3
/-- Of a row that the call owns from the world's end on, nothing else turns. -/
theorem Sr.frame {w w' : World} {v v' : Value} {base : Nat} {l : List ByteArray} (h : Onto w w' v v') (hB : base ≤ w.heap.size) (ho : Sr w base v l) : Below base w w' :=
  ⟨h.grown.os, h.grown.tape, h.grown.output, h.grown.size, fun k hk => h.grown.block k (Nat.lt_of_lt_of_le hk hB) (fun e => by have := (World.ownsRow.lt ho k e.symm).1; omega)⟩
theorem Sr.cast {W : World} {base : Nat} {v : Value} {l l' : List ByteArray} (h : Sr W base v l) (e : l = l') : Sr W 0 v l' := e ▸ h.mono (Nat.zero_le _)
theorem Sr.frameH {w w' : World} {v' : Value} {base H n c : Nat} (h : Onto w w' (.slice (some ⟨H, 0, none⟩) n c) v') (hB : base ≤ w.heap.size) (hH : base ≤ H) : Below base w w' :=
  ⟨h.grown.os, h.grown.tape, h.grown.output, h.grown.size, fun k hk => h.grown.block k (Nat.lt_of_lt_of_le hk hB) (fun e => by have : k = H := Option.some.inj e; omega)⟩
end Go.Proofs.YtfaaagmjmljhiaaGreatDoor
end
section
namespace Go.Proofs.YtfaaagmjmljhiaaGreatDoor
open Go.RowKit Go.Shelf
open Go.Sort (grow)
set_option linter.unusedVariables false

/-- What a round reads of the kids. -/
def Rn (w : World) (c : Nat) (L : Value) (bb p : Nat) (v0 v1 v2 v3 v4 v5 v6 v7 v8 v9 : Value) : Prop :=
  w.cell? ⟨c, 8, none⟩ = some L ∧ w.cell? ⟨bb, p, none⟩ = some v0 ∧ w.cell? ⟨bb, p + 1, none⟩ = some v1 ∧ w.cell? ⟨bb, p + 2, none⟩ = some v2 ∧ w.cell? ⟨bb, p + 3, none⟩ = some v3 ∧ w.cell? ⟨bb, p + 4, none⟩ = some v4 ∧ w.cell? ⟨bb, p + 5, none⟩ = some v5 ∧ w.cell? ⟨bb, p + 6, none⟩ = some v6 ∧ w.cell? ⟨bb, p + 7, none⟩ = some v7 ∧ w.cell? ⟨bb, p + 8, none⟩ = some v8 ∧ w.cell? ⟨bb, p + 9, none⟩ = some v9
theorem Rn.keep {w w' : World} {c : Nat} {L : Value} {bb p : Nat} {v0 v1 v2 v3 v4 v5 v6 v7 v8 v9 : Value} (hb : Below w.heap.size w w') (h : Rn w c L bb p v0 v1 v2 v3 v4 v5 v6 v7 v8 v9) : Rn w' c L bb p v0 v1 v2 v3 v4 v5 v6 v7 v8 v9 := by
  obtain ⟨a1, b0, b1, b2, b3, b4, b5, b6, b7, b8, b9⟩ := h
  exact ⟨cell_keep hb a1, cell_keep hb b0, cell_keep hb b1, cell_keep hb b2, cell_keep hb b3, cell_keep hb b4, cell_keep hb b5, cell_keep hb b6, cell_keep hb b7, cell_keep hb b8, cell_keep hb b9⟩
theorem take_map {α β : Type} (f : α → β) (l : List α) (k : Nat) : (l.map f).take k = (l.take k).map f := (List.map_take ..).symm
theorem drop_map {α β : Type} (f : α → β) (l : List α) (k : Nat) : (l.map f).drop k = (l.drop k).map f := (List.map_drop ..).symm
set_option maxRecDepth 100000 in
set_option maxHeartbeats 8000000 in
theorem ritem_map (g : Bool) (x0 x1 x2 x3 bi : Int) (s : ByteArray) (la : Option Addr) (lc : Nat) (ka : Option Addr) (kc : Nat) (keys : List ByteArray) (kb koff : Nat) (kids : List VT) (bb off : Nat) (w : World) (hKK : KeysL w ka keys kb koff) (hK : Kids w la kids bb off)
    (hN : namesB keys = true) (hkz : ∀ s ∈ keys, s.size ≤ 4096) (hlen : keys.length = kids.length) (hn : kids.length ≤ 1000)
    (hpl : ∀ k, (((places keys).take k).flatMap (memB keys (kids.map encT))).length ≤ 8000000) (hkl : ∀ t ∈ kids, (encT t).length ≤ 8000000)
    (ih : ∀ t ∈ kids, ∀ W, t.In W → Calls Tryz.prog 20 #[t.val] W fun e w' => e = .returned (.string (str (encT t))) ∧ Below W.heap.size W w') :
    Calls Tryz.prog 20 #[V10 8 g x0 x1 x2 x3 bi s la kids.length lc ka keys.length kc] w fun e w' => e = .returned (.string (str (hds 5 keys.length ++ (places keys).flatMap (memB keys (kids.map encT))))) ∧ Below w.heap.size w w' := by
  have HKK := Lib.hid hKK; have HK := Lib.hid hK; have IH := Lib.hid ih; have HPL := Lib.hid hpl; have HKL := Lib.hid hkl; have HKZ := Lib.hid hkz
  have HAP := Lib.hid (names_apart hN)
  obtain ⟨n, hnn⟩ : ∃ n, keys.length = n := ⟨_, rfl⟩
  have HKN := Lib.hid hnn
  have HNN : Hid (kids.length = n) := Lib.hid (by omega)
  have hnn2 : kids.length = n := by omega
  rw [hnn2] at hn
  rw [hnn] at HAP
  obtain ⟨f, hf⟩ : ∃ f, kf keys = f := ⟨_, rfl⟩
  have HF : Hid (∀ (i : Nat) (a : ByteArray), keys[i]? = some a → f i = kl a) := fun i a ha => by rw [← hf]; unfold kf; rw [getD_at ha]
  have HPP : Hid (places keys = plc f n) := Lib.hid (by unfold places; rw [hf, hnn])
  rw [HPP.out] at HPL
  rw [hf] at HAP
  obtain ⟨E, hE⟩ : ∃ E, memB keys (kids.map encT) = E := ⟨_, rfl⟩
  have HE : Hid (∀ (k : Nat) (t : VT) (key : ByteArray), kids[k]? = some t → keys[k]? = some key → E k = kb8 key ++ encT t) := fun k t key ht hk => by
    rw [← hE]
    unfold memB kb8
    rw [getD_at hk, List.getD_eq_getElem?_getD, List.getElem?_map, ht]
    rfl
  obtain ⟨ks, hks⟩ : ∃ ks : Nat → ByteArray, (fun i => str (kb8 (keys.getD i ⟨#[]⟩))) = ks := ⟨_, rfl⟩
  have HKS : Hid (∀ (i : Nat) (a : ByteArray), keys[i]? = some a → ks i = str (kb8 a)) := fun i a ha => by rw [← hks]; show str (kb8 (keys.getD i ⟨#[]⟩)) = _; rw [getD_at ha]
  obtain ⟨ms, hms⟩ : ∃ ms : Nat → ByteArray, (fun i => str (E i)) = ms := ⟨_, rfl⟩
  have HMS : Hid (∀ i, ms i = str (E i)) := fun i => by rw [← hms]
  rw [HPP.out, hE, hnn, hnn2]
  rw [hE] at HPL
  obtain ⟨F, hFF⟩ : ∃ F, hds 5 n = F := ⟨_, rfl⟩
  have HF9 := Lib.hid (hds_len 5 n)
  obtain ⟨S0, hS0⟩ : ∃ S, str F = S := ⟨_, rfl⟩
  have KH : Hid (∀ W, Calls Tryz.prog 13 #[.int .i64 5, .int .u64 (n : Nat)] W fun e w' => e = .returned (.string S0) ∧ Below W.heap.size W w') := Lib.hid (fun W => by rw [← hS0, ← hFF]; exact rhead 5 n (by decide) (by omega) W)
  rw [hFF] at HF9 ⊢
  have HS0 := Lib.hid hS0
  have R0 := Lib.hid (Row10.new w (.int .i64 8) (.bool g) (.int .u64 x0) (.int .u64 x1) (.int .u64 x2) (.int .u64 x3) (.int .u64 bi) (.string s) (.slice la n lc) (.slice ka n kc))
  have B0 := Lib.hid (bal (Below.refl w.heap.size w) (.cells #[.int .i64 8, .bool g, .int .u64 x0, .int .u64 x1, .int .u64 x2, .int .u64 x3, .int .u64 bi, .string s, .slice la n lc, .slice ka n kc] 33))
  clear hKK hK ih hpl hkl hkz hN hlen hnn hnn2 hf hE hks hms hFF hS0
  go_enter Tryz.func20, Tryz.ntmps20
  go_wp2
  go_loopw [5, 6, 7, 8, 9] (fun kv av iv _ _ wr => ∃ i : Nat, i ≤ n ∧ iv = .int .i64 i ∧ Hid (Sr wr 0 kv ((plc f i).map ks)) ∧ Hid (Sr wr 0 av ((plc f i).map ms)) ∧ Hid (i = 0 → kv = .slice none 0 0 ∧ av = .slice none 0 0) ∧ Hid (Below w.heap.size w wr) ∧ Hid (Row10 wr w.heap.size (.int .i64 8) (.bool g) (.int .u64 x0) (.int .u64 x1) (.int .u64 x2) (.int .u64 x3) (.int .u64 bi) (.string s) (.slice la n lc) (.slice ka n kc))) (fun _ _ iv _ _ _ => n - (intOf iv).toNat)
  case atStart => exact ⟨0, Nat.zero_le _, rfl, Sr.nil _ _, Sr.nil _ _, (show Hid _ from fun _ => ⟨rfl, rfl⟩), B0.out, R0.out⟩
  case round =>
    obtain ⟨i, hi, rfl, HSK, HSA, HNIL, BW, HR⟩ := hrel
    rename World => wq
    obtain ⟨p0, p1, p2, p3, p4, p5, p6, p7, p8, p9⟩ := HR.out.parts
    by_cases hlt : i < n
    · have hlt2 : (i : Int) < (n : Int) := by omega
      obtain ⟨t, ht, hm⟩ := kid_at (kids := kids) (k := i) (by rw [HNN.out]; exact hlt)
      obtain ⟨key, hkey, hmk⟩ := key_at (keys := keys) (k := i) (by rw [HKN.out]; exact hlt)
      obtain rfl : la = some ⟨bb, off, none⟩ := HK.out.la (by rw [HNN.out]; omega)
      obtain rfl : ka = some ⟨kb, koff, none⟩ := HKK.out.ka (by rw [HKN.out]; omega)
      have hkc := cell_keep BW.out (HKK.out.cells i key hkey)
      have hkz := HKZ.out key hmk
      have HKY := Lib.hid hkey
      have HKT := Lib.hid ht
      have HMT := Lib.hid hm
      obtain ⟨U, hU⟩ : ∃ U, str (hds 3 key.size) = U := ⟨_, rfl⟩
      have KU : Hid (∀ W, Calls Tryz.prog 13 #[.int .i64 3, .int .u64 (key.size : Nat)] W fun e w' => e = .returned (.string U) ∧ Below W.heap.size W w') := Lib.hid (fun W => by rw [← hU]; exact rhead 3 key.size (by decide) (by omega) W)
      have hU8 : (U.size : Int) ≤ 8388608 := by rw [← hU, str_size]; have := hds_len 3 key.size; omega
      have hk8 : (key.size : Int) ≤ 8388608 := by omega
      have HUK : Hid (U ++ key = str (kb8 key)) := by
        show _ = _
        rw [← hU]
        unfold kb8
        rw [← str_app]
        rfl
      clear hU ht hm hkey hmk
      have r8 := cell_regrown p8; have r9 := cell_regrown p9; have rk := cell_regrown hkc
      have cq0 := fun (d : Nat) (os : Array Obj) => Calls.regrown_of (w := wq) (d := d) (os := os) (KU.out _)
      go_upto_region 25 with (fail)
      clear p0 p1 p2 p3 p4 p5 p6 p7 p8 p9 hkc
      refine wp_region_quiet_below (by kernel_rfl) (by kernel_rfl) ?_
      repeat (first | go_big_quiet_step (with_reducible exact cq0 _ _) | quiet_step (with_reducible exact cq0 _ _))
      refine wpQuiet_nil ?_
      intro _ hw'
      obtain ⟨⟨dq, osq⟩, hw''⟩ := hw'
      subst hw''
      clear r8 r9 rk cq0
      have hbx := below_regrown wq dq osq
      generalize grow (redrawn wq dq) osq = w5 at *
      have HB5 := Lib.hid (btr BW.out hbx)
      have HR5 := Lib.hid (Row10.keep hbx HR.out)
      have HSK5 := Lib.hid (HSK.out.keep hbx)
      have HSA5 := Lib.hid (HSA.out.keep hbx)
      clear hbx
      have hUK8 : ((U ++ key).size : Int) ≤ 8388608 := by rw [HUK.out, str_size]; unfold kb8; rw [List.length_append, bytes_len]; have := hds_len 3 key.size; omega
      generalize U ++ key = K at HUK hUK8 ⊢
      by_cases hi0 : i = 0
      · subst hi0
        obtain ⟨rfl, rfl⟩ := HNIL.out rfl
        have hk : 0 ≤ 0 := Nat.le_refl 0
        have HBc := Lib.hid (Below.refl w5.heap.size w5)
        obtain ⟨w6, rfl⟩ : ∃ w6, w6 = w5 := ⟨_, rfl⟩
        have HDR : Hid (∀ y ∈ (plc f 0).drop 0, lexc (f 0) (f y) = -1) := fun y hy => by cases hy
        have HST : Hid (0 = 0 ∨ ∃ y, (plc f 0)[0 - 1]? = some y ∧ lexc (f 0) (f y) ≠ -1) := Lib.hid (Or.inl rfl)
        go_wp2
        refine wp_loop_rounds 2 ?_
        rw [rounds_succ]
        have HINS : Hid (plc f (0 + 1) = (plc f 0).take 0 ++ 0 :: (plc f 0).drop 0) := by
          show _ = _
          rw [plc_succ]
          exact ins_at f 0 (plc f 0) (plc_rises f 0 fun a b ha hb => HAP.out a b (by omega) (by omega)) (fun y hy h0 => by have h1 := plc_lt hy; have h2 := HAP.out 0 y (by omega) (by omega) h0; omega) 0 (by rw [plc_len]; exact hk) HDR.out (Or.inl rfl)
        have HLK : Hid (((plc f 0).map ks).length = 0 ∧ ((plc f 0).map ms).length = 0) := Lib.hid ⟨by rw [List.length_map, plc_len], by rw [List.length_map, plc_len]⟩
        have HB6 := Lib.hid (btr HB5.out HBc.out)
        have HR6 := Lib.hid (Row10.keep HBc.out HR5.out)
        have HKI : Hid (K = ks 0) := by show _ = _; rw [HUK.out, HKS.out 0 key HKY.out]
        have HEQ : Hid ((([] ++ ((plc f 0).map ks).take 0) ++ [K]) ++ ((plc f 0).map ks).drop 0 = (plc f (0 + 1)).map ks) := by
          show _ = _
          rw [HINS.out, HKI.out, List.nil_append, take_map, drop_map, List.map_append, List.map_cons, List.append_assoc]
          rfl
        have HEQZ : Hid (0 = 0 → (([] ++ ((plc f 0).map ks).take 0) ++ [K]) ++ [] = (plc f (0 + 1)).map ks) := fun h => by
          have h1 := HEQ.out
          rw [List.drop_of_length_le (by rw [HLK.out.1]; omega)] at h1
          exact h1
        have kb0 : (0 : Int) ≤ (0 : Int) := by omega
        have kb1 : (0 : Int) ≤ (0 : Int) := by omega
        go_upto_region 29 with (fail)
        go_cut [5] (fun s5 wx => ∃ (q : Option Addr) (c : Nat), s5 = .slice q (0 + 1) c ∧ Hid (Sr wx 0 (.slice q (0 + 1) c) ((plc f (0 + 1)).map ks)) ∧ Hid (Below w6.heap.size w6 wx))
        case first =>
          have HEQE2 : Hid ((([] ++ []) ++ [K]) ++ [] = (plc f (0 + 1)).map ks) := HEQ
          first | (go_region_held3 (fun _ => True) (trivial) (first | (refine step_append_gen (by rfl) _ _ (by rfl) w6.heap.size (.slice (some ⟨_, 0, none⟩) 0 0) [] (by rfl) (by repeat (first | (exact Sr.empty _ _ _ (by simp) (by simp <;> omega)) | (with_reducible refine Sr.alloc ?_ _) | (with_reducible refine Sr.drew ?_) | (with_reducible refine Sr.keep ?_ HB8.out))) (.slice none 0 0) [] (by first | rfl | (simp [Act.eval]; done)) (Or.inl ⟨rfl, rfl⟩) 0 (by first | (simp <;> omega) | (simp [plc_len] <;> omega)) (by omega) (by first | (have := BF8.out.size; simp <;> omega) | (simp <;> omega)) ?_; intro q1 c1 wa1 hS1 hO1; have HS1 := Lib.hid hS1; have HO1 := Lib.hid hO1; have BF1 : Hid (Below w6.heap.size w6 wa1) := Lib.hid (below_seq (by repeat (first | (with_reducible exact BF3.out) | (with_reducible exact BF2.out) | (with_reducible exact BF8.out) | (with_reducible exact BF1.out) | (with_reducible exact Below.refl _ _) | (with_reducible refine bal ?_ _) | (with_reducible refine Below.drew ?_) | (with_reducible refine bdn ?_ _))) (Sr.frameH hO1 (by first | (have := BF8.out.size; simp <;> omega) | (simp <;> omega)) (by simp <;> omega))); clear hS1 hO1) | (refine step_append_gen (by rfl) _ _ (by rfl) w6.heap.size (.slice q1 0 c1) _ (by rfl) (HS1.out.keep (by repeat (first | (with_reducible exact BF18.out) | (with_reducible exact Below.refl _ _) | (with_reducible refine bal ?_ _) | (with_reducible refine Below.drew ?_) | (with_reducible refine bdn ?_ _)))) (.slice (some ⟨_, 0, none⟩) 1 1) [K] (by first | rfl | (simp [Act.eval]; done)) (Src.one (cell_of_row _ _ 0 #[.string (K)] 9 (0, 0) (by repeat (first | (exact hnew8 (by simp)) | (refine hold8 ?_) | (refine hbel8 HB8.out ?_) | (refine hont8 HO1.out ?_ (by simp [Value.ownBlock] <;> omega)))))) 1 (by first | (simp <;> omega) | (simp [plc_len] <;> omega)) (by omega) (by first | (have h8 := BF8.out.size; have h1 := BF1.out.size; simp <;> omega) | (have h1 := BF1.out.size; simp <;> omega)) ?_; intro q2 c2 wb2 hS2 hO2; have HS2 := Lib.hid hS2; have BF2 : Hid (Below w6.heap.size w6 wb2) := Lib.hid (below_seq (by repeat (first | (with_reducible exact BF3.out) | (with_reducible exact BF2.out) | (with_reducible exact BF8.out) | (with_reducible exact BF1.out) | (with_reducible exact Below.refl _ _) | (with_reducible refine bal ?_ _) | (with_reducible refine Below.drew ?_) | (with_reducible refine bdn ?_ _))) (Sr.frame hO2 (by first | (have h8 := BF8.out.size; have h1 := BF1.out.size; simp <;> omega) | (have h1 := BF1.out.size; simp <;> omega)) (HS1.out.keep (by repeat (first | (with_reducible exact BF18.out) | (with_reducible exact Below.refl _ _) | (with_reducible refine bal ?_ _) | (with_reducible refine Below.drew ?_) | (with_reducible refine bdn ?_ _)))))); clear hS2 hO2) | (refine step_append_gen (by rfl) _ _ (by rfl) w6.heap.size (.slice q2 1 c2) _ (by rfl) (HS2.out.keep (by repeat (first | (with_reducible exact BF18.out) | (with_reducible exact Below.refl _ _) | (with_reducible refine bal ?_ _) | (with_reducible refine Below.drew ?_) | (with_reducible refine bdn ?_ _)))) (.slice none 0 0) [] (by first | rfl | (simp [Act.eval]; done)) (Or.inl ⟨rfl, rfl⟩) 1 (by first | (simp <;> omega) | (simp [plc_len] <;> omega)) (by omega) (by have := BF2.out.size; simp <;> omega) ?_; intro q3 c3 wc3 hS3 hO3; have HS3 := Lib.hid hS3; have BF3 : Hid (Below w6.heap.size w6 wc3) := Lib.hid (below_seq (by repeat (first | (with_reducible exact BF3.out) | (with_reducible exact BF2.out) | (with_reducible exact BF8.out) | (with_reducible exact BF1.out) | (with_reducible exact Below.refl _ _) | (with_reducible refine bal ?_ _) | (with_reducible refine Below.drew ?_) | (with_reducible refine bdn ?_ _))) (Sr.frame hO3 (by have := BF2.out.size; simp <;> omega) (HS2.out.keep (by repeat (first | (with_reducible exact BF18.out) | (with_reducible exact Below.refl _ _) | (with_reducible refine bal ?_ _) | (with_reducible refine Below.drew ?_) | (with_reducible refine bdn ?_ _)))))); clear hS3 hO3) | fail)) | fail
          all_goals
            go_wp2_with fail
            go_meet
            with_reducible exact ⟨_, _, rfl, Lib.hid (Sr.cast HS3.out HEQE2.out), BF3⟩
        case rest =>
          obtain ⟨q5, c5, rfl, HK7, HB67⟩ := hcut
          generalize wc = w7 at *
          have HB7 := Lib.hid (btr HB6.out HB67.out)
          have HR7 := Lib.hid (Row10.keep HB67.out HR6.out)
          have HSA7 := Lib.hid ((HSA5.out.keep HBc.out).keep HB67.out)
          obtain ⟨t, HT0⟩ : ∃ t, Hid (kids[0]? = some t) := ⟨t, HKT⟩
          have hm := List.mem_of_getElem? HT0.out
          have hti := (HK.out.ins 0 t HT0.out).keep HB7.out
          have hr := (HK.out.cells 0 t HT0.out).keep HB7.out
          rw [Nat.zero_mul, Nat.add_zero] at hr
          have hEi : E 0 = kb8 key ++ encT t := HE.out 0 t key HT0.out HKY.out
          have KT0 := fun W (hW : Below w7.heap.size w7 W) => IH.out t hm W (hti.keep hW)
          obtain ⟨Et, hEt⟩ : ∃ Et, encT t = Et := ⟨_, rfl⟩
          have hle : Et.length ≤ 8000000 := by rw [← hEt]; exact HKL.out t hm
          rw [hEt] at KT0 hEi
          obtain ⟨V, hV⟩ : ∃ V, str Et = V := ⟨_, rfl⟩
          have hV8 : (V.size : Int) ≤ 8388608 := by rw [← hV, str_size]; omega
          have HMI : Hid (K ++ V = ms 0) := by
            show _ = _
            rw [HMS.out 0, hEi, HUK.out, ← hV, str_app]
          rw [hV] at KT0
          have hnadd : ¬ 9223372036854775807 < K.size + V.size := by omega
          have HEQM : Hid ((([] ++ ((plc f 0).map ms).take 0) ++ [K ++ V]) ++ ((plc f 0).map ms).drop 0 = (plc f (0 + 1)).map ms) := by
            show _ = _
            rw [HINS.out, HMI.out, List.nil_append, take_map, drop_map, List.map_append, List.map_cons, List.append_assoc]
            rfl
          have HMZ : Hid (0 = 0 → (([] ++ ((plc f 0).map ms).take 0) ++ [K ++ V]) ++ [] = (plc f (0 + 1)).map ms) := fun h => by
            have h1 := HEQM.out
            rw [List.drop_of_length_le (by rw [HLK.out.2]; omega)] at h1
            exact h1
          obtain ⟨o2, l2⟩ := t
          obtain ⟨kd2, g2, x2', b2, s2, la2, lc2, ka2, kc2, ks2⟩ := o2
          simp only [VT.val, VT.cells, VT.o_mk, VT.kids_mk] at KT0
          obtain ⟨c0, c1, c2, c3, c4, c5, c6, c7, c8, c9⟩ := hr.ten
          have KT := Lib.hid KT0
          have RN0 : Hid (Rn w7 w.heap.size (.slice (some ⟨bb, off, none⟩) n lc) bb (off) (.int .i64 kd2) (.bool g2) (.int .u64 (lb 0 x2')) (.int .u64 (lb 1 x2')) (.int .u64 (lb 2 x2')) (.int .u64 (lb 3 x2')) (.int .u64 b2) (.string s2) (.slice la2 l2.length lc2) (.slice ka2 ks2.length kc2)) := Lib.hid ⟨HR7.out.parts.2.2.2.2.2.2.2.2.1, c0, c1, c2, c3, c4, c5, c6, c7, c8, c9⟩
          clear hm hti hr hEi KT0 hEt hV c0 c1 c2 c3 c4 c5 c6 c7 c8 c9
          have HEM : Hid ((([] ++ []) ++ [K ++ V]) ++ [] = (plc f (0 + 1)).map ms) := HEQM
          go_upto_region 30 with (fail)
          first | (go_region_held3 (fun w' => w'.cell? ⟨w.heap.size, 8, none⟩ = some (.slice (some ⟨bb, off, none⟩) n lc) ∧ w'.cell? ⟨bb, off, none⟩ = some (.int .i64 kd2) ∧ w'.cell? ⟨bb, off + 1, none⟩ = some (.bool g2) ∧ w'.cell? ⟨bb, off + 2, none⟩ = some (.int .u64 (lb 0 x2')) ∧ w'.cell? ⟨bb, off + 3, none⟩ = some (.int .u64 (lb 1 x2')) ∧ w'.cell? ⟨bb, off + 4, none⟩ = some (.int .u64 (lb 2 x2')) ∧ w'.cell? ⟨bb, off + 5, none⟩ = some (.int .u64 (lb 3 x2')) ∧ w'.cell? ⟨bb, off + 6, none⟩ = some (.int .u64 b2) ∧ w'.cell? ⟨bb, off + 7, none⟩ = some (.string s2) ∧ w'.cell? ⟨bb, off + 8, none⟩ = some (.slice la2 l2.length lc2) ∧ w'.cell? ⟨bb, off + 9, none⟩ = some (.slice ka2 ks2.length kc2)) ((refine Rn.keep ?_ RN0.out; (repeat (first | (with_reducible exact BF3.out) | (with_reducible exact BF2.out) | (with_reducible exact BF8.out) | (with_reducible exact BF1.out) | (with_reducible exact Below.refl _ _) | (with_reducible refine bal ?_ _) | (with_reducible refine Below.drew ?_) | (with_reducible refine bdn ?_ _))); done)) (first | (go_at_call 20; (with_reducible refine (KT.out _ (by repeat (first | (with_reducible exact BF3.out) | (with_reducible exact BF2.out) | (with_reducible exact BF8.out) | (with_reducible exact BF1.out) | (with_reducible exact Below.refl _ _) | (with_reducible refine bal ?_ _) | (with_reducible refine Below.drew ?_) | (with_reducible refine bdn ?_ _)))).mono ?_); rintro e w8 ⟨rfl, hb8⟩; have HB8 := Lib.hid hb8; have BF8 : Hid (Below w7.heap.size w7 w8) := Lib.hid (btr (by repeat (first | (with_reducible exact BF3.out) | (with_reducible exact BF2.out) | (with_reducible exact BF8.out) | (with_reducible exact BF1.out) | (with_reducible exact Below.refl _ _) | (with_reducible refine bal ?_ _) | (with_reducible refine Below.drew ?_) | (with_reducible refine bdn ?_ _))) hb8); (first | (have BF18 : Hid (Below wa1.heap.size wa1 w8) := Lib.hid (btr (by repeat (first | (with_reducible exact BF18.out) | (with_reducible exact Below.refl _ _) | (with_reducible refine bal ?_ _) | (with_reducible refine Below.drew ?_) | (with_reducible refine bdn ?_ _))) hb8)) | skip); clear hb8) | (refine step_append_gen (by rfl) _ _ (by rfl) w7.heap.size (.slice (some ⟨_, 0, none⟩) 0 0) [] (by rfl) (by repeat (first | (exact Sr.empty _ _ _ (by simp) (by simp <;> omega)) | (with_reducible refine Sr.alloc ?_ _) | (with_reducible refine Sr.drew ?_) | (with_reducible refine Sr.keep ?_ HB8.out))) (.slice none 0 0) [] (by first | rfl | (simp [Act.eval]; done)) (Or.inl ⟨rfl, rfl⟩) 0 (by first | (simp <;> omega) | (simp [plc_len] <;> omega)) (by omega) (by first | (have := BF8.out.size; simp <;> omega) | (simp <;> omega)) ?_; intro q1 c1 wa1 hS1 hO1; have HS1 := Lib.hid hS1; have HO1 := Lib.hid hO1; have BF1 : Hid (Below w7.heap.size w7 wa1) := Lib.hid (below_seq (by repeat (first | (with_reducible exact BF3.out) | (with_reducible exact BF2.out) | (with_reducible exact BF8.out) | (with_reducible exact BF1.out) | (with_reducible exact Below.refl _ _) | (with_reducible refine bal ?_ _) | (with_reducible refine Below.drew ?_) | (with_reducible refine bdn ?_ _))) (Sr.frameH hO1 (by first | (have := BF8.out.size; simp <;> omega) | (simp <;> omega)) (by simp <;> omega))); clear hS1 hO1) | (refine step_append_gen (by rfl) _ _ (by rfl) w7.heap.size (.slice q1 0 c1) _ (by rfl) (HS1.out.keep (by repeat (first | (with_reducible exact BF18.out) | (with_reducible exact Below.refl _ _) | (with_reducible refine bal ?_ _) | (with_reducible refine Below.drew ?_) | (with_reducible refine bdn ?_ _)))) (.slice (some ⟨_, 0, none⟩) 1 1) [K ++ V] (by first | rfl | (simp [Act.eval]; done)) (Src.one (cell_of_row _ _ 0 #[.string (K ++ V)] 9 (0, 0) (by repeat (first | (exact hnew8 (by simp)) | (refine hold8 ?_) | (refine hbel8 HB8.out ?_) | (refine hont8 HO1.out ?_ (by simp [Value.ownBlock] <;> omega)))))) 1 (by first | (simp <;> omega) | (simp [plc_len] <;> omega)) (by omega) (by first | (have h8 := BF8.out.size; have h1 := BF1.out.size; simp <;> omega) | (have h1 := BF1.out.size; simp <;> omega)) ?_; intro q2 c2 wb2 hS2 hO2; have HS2 := Lib.hid hS2; have BF2 : Hid (Below w7.heap.size w7 wb2) := Lib.hid (below_seq (by repeat (first | (with_reducible exact BF3.out) | (with_reducible exact BF2.out) | (with_reducible exact BF8.out) | (with_reducible exact BF1.out) | (with_reducible exact Below.refl _ _) | (with_reducible refine bal ?_ _) | (with_reducible refine Below.drew ?_) | (with_reducible refine bdn ?_ _))) (Sr.frame hO2 (by first | (have h8 := BF8.out.size; have h1 := BF1.out.size; simp <;> omega) | (have h1 := BF1.out.size; simp <;> omega)) (HS1.out.keep (by repeat (first | (with_reducible exact BF18.out) | (with_reducible exact Below.refl _ _) | (with_reducible refine bal ?_ _) | (with_reducible refine Below.drew ?_) | (with_reducible refine bdn ?_ _)))))); clear hS2 hO2) | (refine step_append_gen (by rfl) _ _ (by rfl) w7.heap.size (.slice q2 1 c2) _ (by rfl) (HS2.out.keep (by repeat (first | (with_reducible exact BF18.out) | (with_reducible exact Below.refl _ _) | (with_reducible refine bal ?_ _) | (with_reducible refine Below.drew ?_) | (with_reducible refine bdn ?_ _)))) (.slice none 0 0) [] (by first | rfl | (simp [Act.eval]; done)) (Or.inl ⟨rfl, rfl⟩) 1 (by first | (simp <;> omega) | (simp [plc_len] <;> omega)) (by omega) (by have := BF2.out.size; simp <;> omega) ?_; intro q3 c3 wc3 hS3 hO3; have HS3 := Lib.hid hS3; have BF3 : Hid (Below w7.heap.size w7 wc3) := Lib.hid (below_seq (by repeat (first | (with_reducible exact BF3.out) | (with_reducible exact BF2.out) | (with_reducible exact BF8.out) | (with_reducible exact BF1.out) | (with_reducible exact Below.refl _ _) | (with_reducible refine bal ?_ _) | (with_reducible refine Below.drew ?_) | (with_reducible refine bdn ?_ _))) (Sr.frame hO3 (by have := BF2.out.size; simp <;> omega) (HS2.out.keep (by repeat (first | (with_reducible exact BF18.out) | (with_reducible exact Below.refl _ _) | (with_reducible refine bal ?_ _) | (with_reducible refine Below.drew ?_) | (with_reducible refine bdn ?_ _)))))); clear hS3 hO3) | fail)) | fail
          all_goals
            have HBF := Lib.hid (btr HB7.out BF3.out)
            have HRF := Lib.hid (Row10.keep BF3.out HR7.out)
            have HKF := Lib.hid (HK7.out.keep BF3.out)
            have HAF : Hid (Sr wc3 0 _ ((plc f (0 + 1)).map ms)) := Lib.hid (Sr.cast HS3.out HEM.out)
            go_wp2
            go_roundw
            case rel => exact ⟨0 + 1, by omega, by go_num, HKF.out, HAF.out, (show Hid _ from fun h => absurd h (by omega)), HBF.out, HRF.out⟩
            case measure => simp [intOf]; omega

      · obtain ⟨gk, ck, rfl, hgk, hcl, hcm, HKC⟩ : ∃ gk ck, u5 = .slice (some ⟨gk, 0, none⟩) i ck ∧ gk < w5.heap.size ∧ i ≤ ck ∧ ck ≤ maxLen ∧ Hid (∀ (j : Nat) (s : ByteArray), ((plc f i).map ks)[j]? = some s → w5.cell? ⟨gk, j, none⟩ = some (.string s)) := by
          rcases HSK5.out.form with ⟨h1, _⟩ | ⟨gk, ck, h1, _, h2, h3, h4, h5⟩
          · have := congrArg List.length h1
            rw [List.length_map, plc_len] at this
            exact absurd this hi0
          · rw [List.length_map, plc_len] at h1 h3
            exact ⟨gk, ck, h1, h2, h3, h4, h5⟩
        have hcm2 : ck ≤ 9223372036854775807 := by unfold maxLen at hcm; omega
        go_upto_block 5 with (fail)
        go_cut [9] from 100 to 112 (fun s9 wx => ∃ k : Nat, k ≤ i ∧ s9 = .int .i64 k ∧ Hid (∀ y ∈ (plc f i).drop k, lexc (f i) (f y) = -1) ∧ Hid (k = 0 ∨ ∃ y, (plc f i)[k - 1]? = some y ∧ lexc (f i) (f y) ≠ -1) ∧ Hid (Below w5.heap.size w5 wx))
        case first =>
          go_wp2_with (fail)
          go_loopw [9] (fun s9 wr => ∃ k : Nat, k ≤ i ∧ s9 = .int .i64 k ∧ Hid (∀ y ∈ (plc f i).drop k, lexc (f i) (f y) = -1) ∧ Hid (Below w5.heap.size w5 wr)) (fun s9 _ => (intOf s9).toNat)
          case atStart => exact ⟨i, Nat.le_refl _, rfl, (show Hid _ from fun y hy => by rw [List.drop_of_length_le (by rw [plc_len]; exact Nat.le_refl _)] at hy; cases hy), Below.refl _ _⟩
          case round =>
            obtain ⟨k, hk, rfl, HDR, BWr⟩ := hrel
            rename World => wr
            by_cases hk0 : k = 0
            · subst hk0
              go_wp2
              go_meet
              exact ⟨0, Nat.zero_le _, rfl, HDR, Lib.hid (Or.inl rfl), BWr⟩
            · obtain ⟨k, rfl⟩ : ∃ j, k = j + 1 := ⟨k - 1, by omega⟩
              obtain ⟨y, hy⟩ : ∃ y, (plc f i)[k]? = some y := by
                have h1 : k < (plc f i).length := by rw [plc_len]; omega
                exact ⟨_, List.getElem?_eq_getElem h1⟩
              have hyl : y < i := plc_lt (List.mem_of_getElem? hy)
              have hcy := cell_keep BWr.out (HKC.out k (ks y) (by rw [List.getElem?_map, hy]; rfl))
              obtain ⟨ky, hky, hmy⟩ := key_at (keys := keys) (k := y) (by rw [HKN.out]; omega)
              obtain ⟨Y, hY⟩ : ∃ Y, ks y = Y := ⟨_, rfl⟩
              rw [hY] at hcy
              have hll : ∀ (a b : Nat) (ka kb : ByteArray), keys[a]? = some ka → keys[b]? = some kb → Op.bytesLess (str (kb8 ka)).toList (str (kb8 kb)).toList = decide (lexc (f a) (f b) = -1) := fun a b ka kb ha hb => by
                rw [str_toList, str_toList, less_kb8 (by have := HKZ.out ka (List.mem_of_getElem? ha); omega) (by have := HKZ.out kb (List.mem_of_getElem? hb); omega), HF.out a ka ha, HF.out b kb hb]
              have l1 := hll y i ky key hky HKY.out
              have l2 := hll i y key ky HKY.out hky
              have l3 := hll i i key key HKY.out HKY.out
              rw [← HKS.out y ky hky, hY, ← HUK.out] at l1 l2
              rw [← HUK.out, lexc_self] at l3
              have hap : lexc (f i) (f y) ≠ 0 := fun h => by have := HAP.out i y hlt (by omega) h; omega
              clear hll
              have HDY := Lib.hid hy
              clear hY hky hmy hy
              have hkz1 : (0 : Int) < (k : Int) + 1 := by omega
              by_cases hlx : lexc (f i) (f y) = -1
              · rw [lexc_anti, hlx] at l1
                rw [decide_eq_true hlx] at l2
                have hne2 : (Y.toList == (K).toList) = false := beq_eq_false_iff_ne.2 fun e => by
                  rw [e, l3] at l2
                  simp at l2
                have l1' : Op.bytesLess Y.toList (K).toList = false := by rw [l1]; rfl
                clear l1 l2 l3 hap
                have HD2 : Hid (∀ z ∈ (plc f i).drop k, lexc (f i) (f z) = -1) := fun z hz => by
                  rw [List.drop_eq_getElem_cons (by rw [plc_len]; omega)] at hz
                  rcases List.mem_cons.1 hz with h | h
                  · rw [h]
                    have h2 := (List.getElem?_eq_some_iff.1 HDY.out).2
                    rw [h2]
                    exact hlx
                  · exact HDR.out z h
                clear hlx HDY HDR
                go_wp2
                go_roundw
                case rel => exact ⟨k, by omega, by go_num, HD2, BWr⟩
                case measure => simp [intOf]
              · have hl1 : lexc (f y) (f i) = -1 := by
                  have := lexc_three (f i) (f y)
                  rw [lexc_anti]; omega
                have l1' : Op.bytesLess Y.toList (K).toList = true := by rw [l1]; exact decide_eq_true hl1
                clear l1 l2 l3 hap hl1
                have HST : Hid (k + 1 = 0 ∨ ∃ y, (plc f i)[k + 1 - 1]? = some y ∧ lexc (f i) (f y) ≠ -1) := Lib.hid (Or.inr ⟨y, HDY.out, hlx⟩)
                clear hlx HDY
                go_wp2
                go_meet
                exact ⟨k + 1, hk, by go_num, HDR, HST, BWr⟩
        case rest =>
          obtain ⟨k, hk, rfl, HDR, HST, HBc⟩ := hcut
          generalize wc = w6 at *
          have HINS : Hid (plc f (i + 1) = (plc f i).take k ++ i :: (plc f i).drop k) := by
            show _ = _
            rw [plc_succ]
            exact ins_at f i (plc f i) (plc_rises f i fun a b ha hb => HAP.out a b (by omega) (by omega)) (fun y hy h0 => by have h1 := plc_lt hy; have h2 := HAP.out i y (by omega) (by omega) h0; omega) k (by rw [plc_len]; exact hk) HDR.out HST.out
          have HLK : Hid (((plc f i).map ks).length = i ∧ ((plc f i).map ms).length = i) := Lib.hid ⟨by rw [List.length_map, plc_len], by rw [List.length_map, plc_len]⟩
          have HB6 := Lib.hid (btr HB5.out HBc.out)
          have HR6 := Lib.hid (Row10.keep HBc.out HR5.out)
          have HKI : Hid (K = ks i) := by show _ = _; rw [HUK.out, HKS.out i key HKY.out]
          have HEQ : Hid ((([] ++ ((plc f i).map ks).take k) ++ [K]) ++ ((plc f i).map ks).drop k = (plc f (i + 1)).map ks) := by
            show _ = _
            rw [HINS.out, HKI.out, List.nil_append, take_map, drop_map, List.map_append, List.map_cons, List.append_assoc]
            rfl
          have HEQZ : Hid (k = i → (([] ++ ((plc f i).map ks).take k) ++ [K]) ++ [] = (plc f (i + 1)).map ks) := fun h => by
            have h1 := HEQ.out
            rw [List.drop_of_length_le (by rw [HLK.out.1]; omega)] at h1
            exact h1
          have kb0 : (0 : Int) ≤ (k : Int) := by omega
          have kb1 : (k : Int) ≤ (i : Int) := by omega
          have HTKA : Hid (Src w6 (.slice (some ⟨gk, 0, none⟩) k ck) (((plc f i).map ks).take k)) := Lib.hid ((Src.take HKC.out (by have := HLK.out; omega)).keep HBc.out)
          have HDKA : Hid (Src w6 (.slice (some ⟨gk, k, none⟩) (i - k) (ck - k)) (((plc f i).map ks).drop k)) := Lib.hid (by have h1 := (Src.drop (c := ck - k) HKC.out k).keep HBc.out; rw [HLK.out.1] at h1; exact h1)
          have kb2 : (k : Int) ≤ (ck : Int) := by omega
          have kb3 : (i : Int) ≤ (ck : Int) := by omega
          go_upto_region 29 with (fail)
          go_cut [5] (fun s5 wx => ∃ (q : Option Addr) (c : Nat), s5 = .slice q (i + 1) c ∧ Hid (Sr wx 0 (.slice q (i + 1) c) ((plc f (i + 1)).map ks)) ∧ Hid (Below w6.heap.size w6 wx))
          case first =>
            by_cases hck : ck = k
            · have hki : i = k := by omega
              subst hki
              have hkj : i = ck := by omega
              subst hkj
              have HZ3 := Lib.hid (HEQZ.out rfl)
              first | (go_region_held3 (fun _ => True) (trivial) (first | (refine step_append_gen (by rfl) _ _ (by rfl) w6.heap.size (.slice (some ⟨_, 0, none⟩) 0 0) [] (by rfl) (by repeat (first | (exact Sr.empty _ _ _ (by simp) (by simp <;> omega)) | (with_reducible refine Sr.alloc ?_ _) | (with_reducible refine Sr.drew ?_) | (with_reducible refine Sr.keep ?_ HB8.out))) (.slice (some ⟨gk, 0, none⟩) i i) (((plc f i).map ks).take i) (by first | rfl | (simp [Act.eval]; done)) (HTKA.out.keep (by repeat (first | (with_reducible exact BF3.out) | (with_reducible exact BF2.out) | (with_reducible exact BF8.out) | (with_reducible exact BF1.out) | (with_reducible exact Below.refl _ _) | (with_reducible refine bal ?_ _) | (with_reducible refine Below.drew ?_) | (with_reducible refine bdn ?_ _)))) i (by first | (simp <;> omega) | (simp [plc_len] <;> omega)) (by omega) (by first | (have := BF8.out.size; simp <;> omega) | (simp <;> omega)) ?_; intro q1 c1 wa1 hS1 hO1; have HS1 := Lib.hid hS1; have HO1 := Lib.hid hO1; have BF1 : Hid (Below w6.heap.size w6 wa1) := Lib.hid (below_seq (by repeat (first | (with_reducible exact BF3.out) | (with_reducible exact BF2.out) | (with_reducible exact BF8.out) | (with_reducible exact BF1.out) | (with_reducible exact Below.refl _ _) | (with_reducible refine bal ?_ _) | (with_reducible refine Below.drew ?_) | (with_reducible refine bdn ?_ _))) (Sr.frameH hO1 (by first | (have := BF8.out.size; simp <;> omega) | (simp <;> omega)) (by simp <;> omega))); clear hS1 hO1) | (refine step_append_gen (by rfl) _ _ (by rfl) w6.heap.size (.slice q1 i c1) _ (by rfl) (HS1.out.keep (by repeat (first | (with_reducible exact BF18.out) | (with_reducible exact Below.refl _ _) | (with_reducible refine bal ?_ _) | (with_reducible refine Below.drew ?_) | (with_reducible refine bdn ?_ _)))) (.slice (some ⟨_, 0, none⟩) 1 1) [K] (by first | rfl | (simp [Act.eval]; done)) (Src.one (cell_of_row _ _ 0 #[.string (K)] 9 (0, 0) (by repeat (first | (exact hnew8 (by simp)) | (refine hold8 ?_) | (refine hbel8 HB8.out ?_) | (refine hont8 HO1.out ?_ (by simp [Value.ownBlock] <;> omega)))))) (i + 1) (by first | (simp <;> omega) | (simp [plc_len] <;> omega)) (by omega) (by first | (have h8 := BF8.out.size; have h1 := BF1.out.size; simp <;> omega) | (have h1 := BF1.out.size; simp <;> omega)) ?_; intro q2 c2 wb2 hS2 hO2; have HS2 := Lib.hid hS2; have BF2 : Hid (Below w6.heap.size w6 wb2) := Lib.hid (below_seq (by repeat (first | (with_reducible exact BF3.out) | (with_reducible exact BF2.out) | (with_reducible exact BF8.out) | (with_reducible exact BF1.out) | (with_reducible exact Below.refl _ _) | (with_reducible refine bal ?_ _) | (with_reducible refine Below.drew ?_) | (with_reducible refine bdn ?_ _))) (Sr.frame hO2 (by first | (have h8 := BF8.out.size; have h1 := BF1.out.size; simp <;> omega) | (have h1 := BF1.out.size; simp <;> omega)) (HS1.out.keep (by repeat (first | (with_reducible exact BF18.out) | (with_reducible exact Below.refl _ _) | (with_reducible refine bal ?_ _) | (with_reducible refine Below.drew ?_) | (with_reducible refine bdn ?_ _)))))); clear hS2 hO2) | (refine step_append_gen (by rfl) _ _ (by rfl) w6.heap.size (.slice q2 (i + 1) c2) _ (by rfl) (HS2.out.keep (by repeat (first | (with_reducible exact BF18.out) | (with_reducible exact Below.refl _ _) | (with_reducible refine bal ?_ _) | (with_reducible refine Below.drew ?_) | (with_reducible refine bdn ?_ _)))) _ [] (by first | rfl | (simp [Act.eval]; done)) Src.none (i + 1) (by first | (simp <;> omega) | (simp [plc_len] <;> omega)) (by omega) (by have := BF2.out.size; simp <;> omega) ?_; intro q3 c3 wc3 hS3 hO3; have HS3 := Lib.hid hS3; have BF3 : Hid (Below w6.heap.size w6 wc3) := Lib.hid (below_seq (by repeat (first | (with_reducible exact BF3.out) | (with_reducible exact BF2.out) | (with_reducible exact BF8.out) | (with_reducible exact BF1.out) | (with_reducible exact Below.refl _ _) | (with_reducible refine bal ?_ _) | (with_reducible refine Below.drew ?_) | (with_reducible refine bdn ?_ _))) (Sr.frame hO3 (by have := BF2.out.size; simp <;> omega) (HS2.out.keep (by repeat (first | (with_reducible exact BF18.out) | (with_reducible exact Below.refl _ _) | (with_reducible refine bal ?_ _) | (with_reducible refine Below.drew ?_) | (with_reducible refine bdn ?_ _)))))); clear hS3 hO3) | fail)) | fail
              all_goals
                go_wp2_with fail
                go_meet
                with_reducible exact ⟨_, _, rfl, Lib.hid (Sr.cast HS3.out HZ3.out), BF3⟩
            · first | (go_region_held3 (fun _ => True) (trivial) (first | (refine step_append_gen (by rfl) _ _ (by rfl) w6.heap.size (.slice (some ⟨_, 0, none⟩) 0 0) [] (by rfl) (by repeat (first | (exact Sr.empty _ _ _ (by simp) (by simp <;> omega)) | (with_reducible refine Sr.alloc ?_ _) | (with_reducible refine Sr.drew ?_) | (with_reducible refine Sr.keep ?_ HB8.out))) (.slice (some ⟨gk, 0, none⟩) k ck) (((plc f i).map ks).take k) (by first | rfl | (simp [Act.eval]; done)) (HTKA.out.keep (by repeat (first | (with_reducible exact BF3.out) | (with_reducible exact BF2.out) | (with_reducible exact BF8.out) | (with_reducible exact BF1.out) | (with_reducible exact Below.refl _ _) | (with_reducible refine bal ?_ _) | (with_reducible refine Below.drew ?_) | (with_reducible refine bdn ?_ _)))) k (by first | (simp <;> omega) | (simp [plc_len] <;> omega)) (by omega) (by first | (have := BF8.out.size; simp <;> omega) | (simp <;> omega)) ?_; intro q1 c1 wa1 hS1 hO1; have HS1 := Lib.hid hS1; have HO1 := Lib.hid hO1; have BF1 : Hid (Below w6.heap.size w6 wa1) := Lib.hid (below_seq (by repeat (first | (with_reducible exact BF3.out) | (with_reducible exact BF2.out) | (with_reducible exact BF8.out) | (with_reducible exact BF1.out) | (with_reducible exact Below.refl _ _) | (with_reducible refine bal ?_ _) | (with_reducible refine Below.drew ?_) | (with_reducible refine bdn ?_ _))) (Sr.frameH hO1 (by first | (have := BF8.out.size; simp <;> omega) | (simp <;> omega)) (by simp <;> omega))); clear hS1 hO1) | (refine step_append_gen (by rfl) _ _ (by rfl) w6.heap.size (.slice q1 k c1) _ (by rfl) (HS1.out.keep (by repeat (first | (with_reducible exact BF18.out) | (with_reducible exact Below.refl _ _) | (with_reducible refine bal ?_ _) | (with_reducible refine Below.drew ?_) | (with_reducible refine bdn ?_ _)))) (.slice (some ⟨_, 0, none⟩) 1 1) [K] (by first | rfl | (simp [Act.eval]; done)) (Src.one (cell_of_row _ _ 0 #[.string (K)] 9 (0, 0) (by repeat (first | (exact hnew8 (by simp)) | (refine hold8 ?_) | (refine hbel8 HB8.out ?_) | (refine hont8 HO1.out ?_ (by simp [Value.ownBlock] <;> omega)))))) (k + 1) (by first | (simp <;> omega) | (simp [plc_len] <;> omega)) (by omega) (by first | (have h8 := BF8.out.size; have h1 := BF1.out.size; simp <;> omega) | (have h1 := BF1.out.size; simp <;> omega)) ?_; intro q2 c2 wb2 hS2 hO2; have HS2 := Lib.hid hS2; have BF2 : Hid (Below w6.heap.size w6 wb2) := Lib.hid (below_seq (by repeat (first | (with_reducible exact BF3.out) | (with_reducible exact BF2.out) | (with_reducible exact BF8.out) | (with_reducible exact BF1.out) | (with_reducible exact Below.refl _ _) | (with_reducible refine bal ?_ _) | (with_reducible refine Below.drew ?_) | (with_reducible refine bdn ?_ _))) (Sr.frame hO2 (by first | (have h8 := BF8.out.size; have h1 := BF1.out.size; simp <;> omega) | (have h1 := BF1.out.size; simp <;> omega)) (HS1.out.keep (by repeat (first | (with_reducible exact BF18.out) | (with_reducible exact Below.refl _ _) | (with_reducible refine bal ?_ _) | (with_reducible refine Below.drew ?_) | (with_reducible refine bdn ?_ _)))))); clear hS2 hO2) | (refine step_append_gen (by rfl) _ _ (by rfl) w6.heap.size (.slice q2 (k + 1) c2) _ (by rfl) (HS2.out.keep (by repeat (first | (with_reducible exact BF18.out) | (with_reducible exact Below.refl _ _) | (with_reducible refine bal ?_ _) | (with_reducible refine Below.drew ?_) | (with_reducible refine bdn ?_ _)))) (.slice (some ⟨gk, k, none⟩) (i - k) (ck - k)) (((plc f i).map ks).drop k) (by first | rfl | (simp [Act.eval]; done)) (HDKA.out.keep (by repeat (first | (with_reducible exact BF3.out) | (with_reducible exact BF2.out) | (with_reducible exact BF8.out) | (with_reducible exact BF1.out) | (with_reducible exact Below.refl _ _) | (with_reducible refine bal ?_ _) | (with_reducible refine Below.drew ?_) | (with_reducible refine bdn ?_ _)))) (i + 1) (by first | (simp <;> omega) | (simp [plc_len] <;> omega)) (by omega) (by have := BF2.out.size; simp <;> omega) ?_; intro q3 c3 wc3 hS3 hO3; have HS3 := Lib.hid hS3; have BF3 : Hid (Below w6.heap.size w6 wc3) := Lib.hid (below_seq (by repeat (first | (with_reducible exact BF3.out) | (with_reducible exact BF2.out) | (with_reducible exact BF8.out) | (with_reducible exact BF1.out) | (with_reducible exact Below.refl _ _) | (with_reducible refine bal ?_ _) | (with_reducible refine Below.drew ?_) | (with_reducible refine bdn ?_ _))) (Sr.frame hO3 (by have := BF2.out.size; simp <;> omega) (HS2.out.keep (by repeat (first | (with_reducible exact BF18.out) | (with_reducible exact Below.refl _ _) | (with_reducible refine bal ?_ _) | (with_reducible refine Below.drew ?_) | (with_reducible refine bdn ?_ _)))))); clear hS3 hO3) | fail)) | fail
              all_goals
                go_wp2_with fail
                go_meet
                with_reducible exact ⟨_, _, rfl, Lib.hid (Sr.cast HS3.out HEQ.out), BF3⟩
          case rest =>
            obtain ⟨q5, c5, rfl, HK7, HB67⟩ := hcut
            generalize wc = w7 at *
            have HB7 := Lib.hid (btr HB6.out HB67.out)
            have HR7 := Lib.hid (Row10.keep HB67.out HR6.out)
            have HSA7 := Lib.hid ((HSA5.out.keep HBc.out).keep HB67.out)
            obtain ⟨t, HT0⟩ : ∃ t, Hid (kids[i]? = some t) := ⟨t, HKT⟩
            have hm := List.mem_of_getElem? HT0.out
            have hti := (HK.out.ins i t HT0.out).keep HB7.out
            have hr := (HK.out.cells i t HT0.out).keep HB7.out
            have hEi : E i = kb8 key ++ encT t := HE.out i t key HT0.out HKY.out
            have KT0 := fun W (hW : Below w7.heap.size w7 W) => IH.out t hm W (hti.keep hW)
            obtain ⟨Et, hEt⟩ : ∃ Et, encT t = Et := ⟨_, rfl⟩
            have hle : Et.length ≤ 8000000 := by rw [← hEt]; exact HKL.out t hm
            rw [hEt] at KT0 hEi
            obtain ⟨V, hV⟩ : ∃ V, str Et = V := ⟨_, rfl⟩
            have hV8 : (V.size : Int) ≤ 8388608 := by rw [← hV, str_size]; omega
            have HMI : Hid (K ++ V = ms i) := by
              show _ = _
              rw [HMS.out i, hEi, HUK.out, ← hV, str_app]
            rw [hV] at KT0
            have hnadd : ¬ 9223372036854775807 < K.size + V.size := by omega
            have HEQM : Hid ((([] ++ ((plc f i).map ms).take k) ++ [K ++ V]) ++ ((plc f i).map ms).drop k = (plc f (i + 1)).map ms) := by
              show _ = _
              rw [HINS.out, HMI.out, List.nil_append, take_map, drop_map, List.map_append, List.map_cons, List.append_assoc]
              rfl
            have HMZ : Hid (k = i → (([] ++ ((plc f i).map ms).take k) ++ [K ++ V]) ++ [] = (plc f (i + 1)).map ms) := fun h => by
              have h1 := HEQM.out
              rw [List.drop_of_length_le (by rw [HLK.out.2]; omega)] at h1
              exact h1
            obtain ⟨o2, l2⟩ := t
            obtain ⟨kd2, g2, x2', b2, s2, la2, lc2, ka2, kc2, ks2⟩ := o2
            simp only [VT.val, VT.cells, VT.o_mk, VT.kids_mk] at KT0
            obtain ⟨c0, c1, c2, c3, c4, c5, c6, c7, c8, c9⟩ := hr.ten
            have KT := Lib.hid KT0
            have RN0 : Hid (Rn w7 w.heap.size (.slice (some ⟨bb, off, none⟩) n lc) bb (off + i * 10) (.int .i64 kd2) (.bool g2) (.int .u64 (lb 0 x2')) (.int .u64 (lb 1 x2')) (.int .u64 (lb 2 x2')) (.int .u64 (lb 3 x2')) (.int .u64 b2) (.string s2) (.slice la2 l2.length lc2) (.slice ka2 ks2.length kc2)) := Lib.hid ⟨HR7.out.parts.2.2.2.2.2.2.2.2.1, c0, c1, c2, c3, c4, c5, c6, c7, c8, c9⟩
            clear hm hti hr hEi KT0 hEt hV c0 c1 c2 c3 c4 c5 c6 c7 c8 c9
            obtain ⟨ga, ca, rfl, hga, hcla, hcma, HAC⟩ : ∃ ga ca, u6 = .slice (some ⟨ga, 0, none⟩) i ca ∧ ga < w7.heap.size ∧ i ≤ ca ∧ ca ≤ maxLen ∧ Hid (∀ (j : Nat) (s : ByteArray), ((plc f i).map ms)[j]? = some s → w7.cell? ⟨ga, j, none⟩ = some (.string s)) := by
              rcases HSA7.out.form with ⟨h1, _⟩ | ⟨ga, ca, h1, _, h2, h3, h4, h5⟩
              · have := congrArg List.length h1
                rw [List.length_map, plc_len] at this
                exact absurd this hi0
              · rw [List.length_map, plc_len] at h1 h3
                exact ⟨ga, ca, h1, h2, h3, h4, h5⟩
            have HTKB : Hid (Src w7 (.slice (some ⟨ga, 0, none⟩) k ca) (((plc f i).map ms).take k)) := Lib.hid (Src.take HAC.out (by have := HLK.out; omega))
            have HDKB : Hid (Src w7 (.slice (some ⟨ga, k, none⟩) (i - k) (ca - k)) (((plc f i).map ms).drop k)) := Lib.hid (by have h1 := Src.drop (c := ca - k) HAC.out k; rw [HLK.out.2] at h1; exact h1)
            have kq2 : (k : Int) ≤ (ca : Int) := by omega
            have kq3 : (i : Int) ≤ (ca : Int) := by omega
            go_upto_region 30 with (fail)
            by_cases hca : ca = k
            · have hki : i = k := by omega
              subst hki
              have hkj : i = ca := by omega
              subst hkj
              have HZM := Lib.hid (HMZ.out rfl)
              first | (go_region_held3 (fun w' => w'.cell? ⟨w.heap.size, 8, none⟩ = some (.slice (some ⟨bb, off, none⟩) n lc) ∧ w'.cell? ⟨bb, off + i * 10, none⟩ = some (.int .i64 kd2) ∧ w'.cell? ⟨bb, off + i * 10 + 1, none⟩ = some (.bool g2) ∧ w'.cell? ⟨bb, off + i * 10 + 2, none⟩ = some (.int .u64 (lb 0 x2')) ∧ w'.cell? ⟨bb, off + i * 10 + 3, none⟩ = some (.int .u64 (lb 1 x2')) ∧ w'.cell? ⟨bb, off + i * 10 + 4, none⟩ = some (.int .u64 (lb 2 x2')) ∧ w'.cell? ⟨bb, off + i * 10 + 5, none⟩ = some (.int .u64 (lb 3 x2')) ∧ w'.cell? ⟨bb, off + i * 10 + 6, none⟩ = some (.int .u64 b2) ∧ w'.cell? ⟨bb, off + i * 10 + 7, none⟩ = some (.string s2) ∧ w'.cell? ⟨bb, off + i * 10 + 8, none⟩ = some (.slice la2 l2.length lc2) ∧ w'.cell? ⟨bb, off + i * 10 + 9, none⟩ = some (.slice ka2 ks2.length kc2)) ((refine Rn.keep ?_ RN0.out; (repeat (first | (with_reducible exact BF3.out) | (with_reducible exact BF2.out) | (with_reducible exact BF8.out) | (with_reducible exact BF1.out) | (with_reducible exact Below.refl _ _) | (with_reducible refine bal ?_ _) | (with_reducible refine Below.drew ?_) | (with_reducible refine bdn ?_ _))); done)) (first | (go_at_call 20; (with_reducible refine (KT.out _ (by repeat (first | (with_reducible exact BF3.out) | (with_reducible exact BF2.out) | (with_reducible exact BF8.out) | (with_reducible exact BF1.out) | (with_reducible exact Below.refl _ _) | (with_reducible refine bal ?_ _) | (with_reducible refine Below.drew ?_) | (with_reducible refine bdn ?_ _)))).mono ?_); rintro e w8 ⟨rfl, hb8⟩; have HB8 := Lib.hid hb8; have BF8 : Hid (Below w7.heap.size w7 w8) := Lib.hid (btr (by repeat (first | (with_reducible exact BF3.out) | (with_reducible exact BF2.out) | (with_reducible exact BF8.out) | (with_reducible exact BF1.out) | (with_reducible exact Below.refl _ _) | (with_reducible refine bal ?_ _) | (with_reducible refine Below.drew ?_) | (with_reducible refine bdn ?_ _))) hb8); (first | (have BF18 : Hid (Below wa1.heap.size wa1 w8) := Lib.hid (btr (by repeat (first | (with_reducible exact BF18.out) | (with_reducible exact Below.refl _ _) | (with_reducible refine bal ?_ _) | (with_reducible refine Below.drew ?_) | (with_reducible refine bdn ?_ _))) hb8)) | skip); clear hb8) | (refine step_append_gen (by rfl) _ _ (by rfl) w7.heap.size (.slice (some ⟨_, 0, none⟩) 0 0) [] (by rfl) (by repeat (first | (exact Sr.empty _ _ _ (by simp) (by simp <;> omega)) | (with_reducible refine Sr.alloc ?_ _) | (with_reducible refine Sr.drew ?_) | (with_reducible refine Sr.keep ?_ HB8.out))) (.slice (some ⟨ga, 0, none⟩) i i) (((plc f i).map ms).take i) (by first | rfl | (simp [Act.eval]; done)) (HTKB.out.keep (by repeat (first | (with_reducible exact BF3.out) | (with_reducible exact BF2.out) | (with_reducible exact BF8.out) | (with_reducible exact BF1.out) | (with_reducible exact Below.refl _ _) | (with_reducible refine bal ?_ _) | (with_reducible refine Below.drew ?_) | (with_reducible refine bdn ?_ _)))) i (by first | (simp <;> omega) | (simp [plc_len] <;> omega)) (by omega) (by first | (have := BF8.out.size; simp <;> omega) | (simp <;> omega)) ?_; intro q1 c1 wa1 hS1 hO1; have HS1 := Lib.hid hS1; have HO1 := Lib.hid hO1; have BF1 : Hid (Below w7.heap.size w7 wa1) := Lib.hid (below_seq (by repeat (first | (with_reducible exact BF3.out) | (with_reducible exact BF2.out) | (with_reducible exact BF8.out) | (with_reducible exact BF1.out) | (with_reducible exact Below.refl _ _) | (with_reducible refine bal ?_ _) | (with_reducible refine Below.drew ?_) | (with_reducible refine bdn ?_ _))) (Sr.frameH hO1 (by first | (have := BF8.out.size; simp <;> omega) | (simp <;> omega)) (by simp <;> omega))); clear hS1 hO1) | (refine step_append_gen (by rfl) _ _ (by rfl) w7.heap.size (.slice q1 i c1) _ (by rfl) (HS1.out.keep (by repeat (first | (with_reducible exact BF18.out) | (with_reducible exact Below.refl _ _) | (with_reducible refine bal ?_ _) | (with_reducible refine Below.drew ?_) | (with_reducible refine bdn ?_ _)))) (.slice (some ⟨_, 0, none⟩) 1 1) [K ++ V] (by first | rfl | (simp [Act.eval]; done)) (Src.one (cell_of_row _ _ 0 #[.string (K ++ V)] 9 (0, 0) (by repeat (first | (exact hnew8 (by simp)) | (refine hold8 ?_) | (refine hbel8 HB8.out ?_) | (refine hont8 HO1.out ?_ (by simp [Value.ownBlock] <;> omega)))))) (i + 1) (by first | (simp <;> omega) | (simp [plc_len] <;> omega)) (by omega) (by first | (have h8 := BF8.out.size; have h1 := BF1.out.size; simp <;> omega) | (have h1 := BF1.out.size; simp <;> omega)) ?_; intro q2 c2 wb2 hS2 hO2; have HS2 := Lib.hid hS2; have BF2 : Hid (Below w7.heap.size w7 wb2) := Lib.hid (below_seq (by repeat (first | (with_reducible exact BF3.out) | (with_reducible exact BF2.out) | (with_reducible exact BF8.out) | (with_reducible exact BF1.out) | (with_reducible exact Below.refl _ _) | (with_reducible refine bal ?_ _) | (with_reducible refine Below.drew ?_) | (with_reducible refine bdn ?_ _))) (Sr.frame hO2 (by first | (have h8 := BF8.out.size; have h1 := BF1.out.size; simp <;> omega) | (have h1 := BF1.out.size; simp <;> omega)) (HS1.out.keep (by repeat (first | (with_reducible exact BF18.out) | (with_reducible exact Below.refl _ _) | (with_reducible refine bal ?_ _) | (with_reducible refine Below.drew ?_) | (with_reducible refine bdn ?_ _)))))); clear hS2 hO2) | (refine step_append_gen (by rfl) _ _ (by rfl) w7.heap.size (.slice q2 (i + 1) c2) _ (by rfl) (HS2.out.keep (by repeat (first | (with_reducible exact BF18.out) | (with_reducible exact Below.refl _ _) | (with_reducible refine bal ?_ _) | (with_reducible refine Below.drew ?_) | (with_reducible refine bdn ?_ _)))) _ [] (by first | rfl | (simp [Act.eval]; done)) Src.none (i + 1) (by first | (simp <;> omega) | (simp [plc_len] <;> omega)) (by omega) (by have := BF2.out.size; simp <;> omega) ?_; intro q3 c3 wc3 hS3 hO3; have HS3 := Lib.hid hS3; have BF3 : Hid (Below w7.heap.size w7 wc3) := Lib.hid (below_seq (by repeat (first | (with_reducible exact BF3.out) | (with_reducible exact BF2.out) | (with_reducible exact BF8.out) | (with_reducible exact BF1.out) | (with_reducible exact Below.refl _ _) | (with_reducible refine bal ?_ _) | (with_reducible refine Below.drew ?_) | (with_reducible refine bdn ?_ _))) (Sr.frame hO3 (by have := BF2.out.size; simp <;> omega) (HS2.out.keep (by repeat (first | (with_reducible exact BF18.out) | (with_reducible exact Below.refl _ _) | (with_reducible refine bal ?_ _) | (with_reducible refine Below.drew ?_) | (with_reducible refine bdn ?_ _)))))); clear hS3 hO3) | fail)) | fail
              all_goals
                have HBF := Lib.hid (btr HB7.out BF3.out)
                have HRF := Lib.hid (Row10.keep BF3.out HR7.out)
                have HKF := Lib.hid (HK7.out.keep BF3.out)
                have HAF : Hid (Sr wc3 0 _ ((plc f (i + 1)).map ms)) := Lib.hid (Sr.cast HS3.out HZM.out)
                go_wp2
                go_roundw
                case rel => exact ⟨i + 1, by omega, by go_num, HKF.out, HAF.out, (show Hid _ from fun h => absurd h (by omega)), HBF.out, HRF.out⟩
                case measure => simp [intOf]; omega
            · first | (go_region_held3 (fun w' => w'.cell? ⟨w.heap.size, 8, none⟩ = some (.slice (some ⟨bb, off, none⟩) n lc) ∧ w'.cell? ⟨bb, off + i * 10, none⟩ = some (.int .i64 kd2) ∧ w'.cell? ⟨bb, off + i * 10 + 1, none⟩ = some (.bool g2) ∧ w'.cell? ⟨bb, off + i * 10 + 2, none⟩ = some (.int .u64 (lb 0 x2')) ∧ w'.cell? ⟨bb, off + i * 10 + 3, none⟩ = some (.int .u64 (lb 1 x2')) ∧ w'.cell? ⟨bb, off + i * 10 + 4, none⟩ = some (.int .u64 (lb 2 x2')) ∧ w'.cell? ⟨bb, off + i * 10 + 5, none⟩ = some (.int .u64 (lb 3 x2')) ∧ w'.cell? ⟨bb, off + i * 10 + 6, none⟩ = some (.int .u64 b2) ∧ w'.cell? ⟨bb, off + i * 10 + 7, none⟩ = some (.string s2) ∧ w'.cell? ⟨bb, off + i * 10 + 8, none⟩ = some (.slice la2 l2.length lc2) ∧ w'.cell? ⟨bb, off + i * 10 + 9, none⟩ = some (.slice ka2 ks2.length kc2)) ((refine Rn.keep ?_ RN0.out; (repeat (first | (with_reducible exact BF3.out) | (with_reducible exact BF2.out) | (with_reducible exact BF8.out) | (with_reducible exact BF1.out) | (with_reducible exact Below.refl _ _) | (with_reducible refine bal ?_ _) | (with_reducible refine Below.drew ?_) | (with_reducible refine bdn ?_ _))); done)) (first | (go_at_call 20; (with_reducible refine (KT.out _ (by repeat (first | (with_reducible exact BF3.out) | (with_reducible exact BF2.out) | (with_reducible exact BF8.out) | (with_reducible exact BF1.out) | (with_reducible exact Below.refl _ _) | (with_reducible refine bal ?_ _) | (with_reducible refine Below.drew ?_) | (with_reducible refine bdn ?_ _)))).mono ?_); rintro e w8 ⟨rfl, hb8⟩; have HB8 := Lib.hid hb8; have BF8 : Hid (Below w7.heap.size w7 w8) := Lib.hid (btr (by repeat (first | (with_reducible exact BF3.out) | (with_reducible exact BF2.out) | (with_reducible exact BF8.out) | (with_reducible exact BF1.out) | (with_reducible exact Below.refl _ _) | (with_reducible refine bal ?_ _) | (with_reducible refine Below.drew ?_) | (with_reducible refine bdn ?_ _))) hb8); (first | (have BF18 : Hid (Below wa1.heap.size wa1 w8) := Lib.hid (btr (by repeat (first | (with_reducible exact BF18.out) | (with_reducible exact Below.refl _ _) | (with_reducible refine bal ?_ _) | (with_reducible refine Below.drew ?_) | (with_reducible refine bdn ?_ _))) hb8)) | skip); clear hb8) | (refine step_append_gen (by rfl) _ _ (by rfl) w7.heap.size (.slice (some ⟨_, 0, none⟩) 0 0) [] (by rfl) (by repeat (first | (exact Sr.empty _ _ _ (by simp) (by simp <;> omega)) | (with_reducible refine Sr.alloc ?_ _) | (with_reducible refine Sr.drew ?_) | (with_reducible refine Sr.keep ?_ HB8.out))) (.slice (some ⟨ga, 0, none⟩) k ca) (((plc f i).map ms).take k) (by first | rfl | (simp [Act.eval]; done)) (HTKB.out.keep (by repeat (first | (with_reducible exact BF3.out) | (with_reducible exact BF2.out) | (with_reducible exact BF8.out) | (with_reducible exact BF1.out) | (with_reducible exact Below.refl _ _) | (with_reducible refine bal ?_ _) | (with_reducible refine Below.drew ?_) | (with_reducible refine bdn ?_ _)))) k (by first | (simp <;> omega) | (simp [plc_len] <;> omega)) (by omega) (by first | (have := BF8.out.size; simp <;> omega) | (simp <;> omega)) ?_; intro q1 c1 wa1 hS1 hO1; have HS1 := Lib.hid hS1; have HO1 := Lib.hid hO1; have BF1 : Hid (Below w7.heap.size w7 wa1) := Lib.hid (below_seq (by repeat (first | (with_reducible exact BF3.out) | (with_reducible exact BF2.out) | (with_reducible exact BF8.out) | (with_reducible exact BF1.out) | (with_reducible exact Below.refl _ _) | (with_reducible refine bal ?_ _) | (with_reducible refine Below.drew ?_) | (with_reducible refine bdn ?_ _))) (Sr.frameH hO1 (by first | (have := BF8.out.size; simp <;> omega) | (simp <;> omega)) (by simp <;> omega))); clear hS1 hO1) | (refine step_append_gen (by rfl) _ _ (by rfl) w7.heap.size (.slice q1 k c1) _ (by rfl) (HS1.out.keep (by repeat (first | (with_reducible exact BF18.out) | (with_reducible exact Below.refl _ _) | (with_reducible refine bal ?_ _) | (with_reducible refine Below.drew ?_) | (with_reducible refine bdn ?_ _)))) (.slice (some ⟨_, 0, none⟩) 1 1) [K ++ V] (by first | rfl | (simp [Act.eval]; done)) (Src.one (cell_of_row _ _ 0 #[.string (K ++ V)] 9 (0, 0) (by repeat (first | (exact hnew8 (by simp)) | (refine hold8 ?_) | (refine hbel8 HB8.out ?_) | (refine hont8 HO1.out ?_ (by simp [Value.ownBlock] <;> omega)))))) (k + 1) (by first | (simp <;> omega) | (simp [plc_len] <;> omega)) (by omega) (by first | (have h8 := BF8.out.size; have h1 := BF1.out.size; simp <;> omega) | (have h1 := BF1.out.size; simp <;> omega)) ?_; intro q2 c2 wb2 hS2 hO2; have HS2 := Lib.hid hS2; have BF2 : Hid (Below w7.heap.size w7 wb2) := Lib.hid (below_seq (by repeat (first | (with_reducible exact BF3.out) | (with_reducible exact BF2.out) | (with_reducible exact BF8.out) | (with_reducible exact BF1.out) | (with_reducible exact Below.refl _ _) | (with_reducible refine bal ?_ _) | (with_reducible refine Below.drew ?_) | (with_reducible refine bdn ?_ _))) (Sr.frame hO2 (by first | (have h8 := BF8.out.size; have h1 := BF1.out.size; simp <;> omega) | (have h1 := BF1.out.size; simp <;> omega)) (HS1.out.keep (by repeat (first | (with_reducible exact BF18.out) | (with_reducible exact Below.refl _ _) | (with_reducible refine bal ?_ _) | (with_reducible refine Below.drew ?_) | (with_reducible refine bdn ?_ _)))))); clear hS2 hO2) | (refine step_append_gen (by rfl) _ _ (by rfl) w7.heap.size (.slice q2 (k + 1) c2) _ (by rfl) (HS2.out.keep (by repeat (first | (with_reducible exact BF18.out) | (with_reducible exact Below.refl _ _) | (with_reducible refine bal ?_ _) | (with_reducible refine Below.drew ?_) | (with_reducible refine bdn ?_ _)))) (.slice (some ⟨ga, k, none⟩) (i - k) (ca - k)) (((plc f i).map ms).drop k) (by first | rfl | (simp [Act.eval]; done)) (HDKB.out.keep (by repeat (first | (with_reducible exact BF3.out) | (with_reducible exact BF2.out) | (with_reducible exact BF8.out) | (with_reducible exact BF1.out) | (with_reducible exact Below.refl _ _) | (with_reducible refine bal ?_ _) | (with_reducible refine Below.drew ?_) | (with_reducible refine bdn ?_ _)))) (i + 1) (by first | (simp <;> omega) | (simp [plc_len] <;> omega)) (by omega) (by have := BF2.out.size; simp <;> omega) ?_; intro q3 c3 wc3 hS3 hO3; have HS3 := Lib.hid hS3; have BF3 : Hid (Below w7.heap.size w7 wc3) := Lib.hid (below_seq (by repeat (first | (with_reducible exact BF3.out) | (with_reducible exact BF2.out) | (with_reducible exact BF8.out) | (with_reducible exact BF1.out) | (with_reducible exact Below.refl _ _) | (with_reducible refine bal ?_ _) | (with_reducible refine Below.drew ?_) | (with_reducible refine bdn ?_ _))) (Sr.frame hO3 (by have := BF2.out.size; simp <;> omega) (HS2.out.keep (by repeat (first | (with_reducible exact BF18.out) | (with_reducible exact Below.refl _ _) | (with_reducible refine bal ?_ _) | (with_reducible refine Below.drew ?_) | (with_reducible refine bdn ?_ _)))))); clear hS3 hO3) | fail)) | fail
              all_goals
                have HBF := Lib.hid (btr HB7.out BF3.out)
                have HRF := Lib.hid (Row10.keep BF3.out HR7.out)
                have HKF := Lib.hid (HK7.out.keep BF3.out)
                have HAF : Hid (Sr wc3 0 _ ((plc f (i + 1)).map ms)) := Lib.hid (Sr.cast HS3.out HEQM.out)
                go_wp2
                go_roundw
                case rel => exact ⟨i + 1, by omega, by go_num, HKF.out, HAF.out, (show Hid _ from fun h => absurd h (by omega)), HBF.out, HRF.out⟩
                case measure => simp [intOf]; omega
    · obtain rfl : i = n := by omega
      have hge : ¬ (i : Int) < (i : Int) := by omega
      go_wp2_with fail
      ((with_reducible refine (KH.out _).mono ?_); rintro e w1 ⟨rfl, hb1⟩)
      have HB1 := Lib.hid (btr BW.out hb1)
      have HSA1 := Lib.hid (HSA.out.keep hb1)
      clear hb1 p0 p1 p2 p3 p4 p5 p6 p7 p8 p9
      have HS0' : Hid (S0 = str (F ++ ((plc f i).take 0).flatMap E)) := by
        show _ = _
        rw [List.take_zero, List.flatMap_nil, List.append_nil]
        exact HS0.out.symm
      have hS08 : (S0.size : Int) ≤ 8388608 := by rw [← HS0.out, str_size]; have := HF9.out; omega
      rcases HSA1.out.form with ⟨h1, rfl⟩ | ⟨ga, ca, rfl, _, hga, hcla, hcma, hac⟩
      · have hi0 : i = 0 := by
          have := congrArg List.length h1
          rw [List.length_map, plc_len] at this
          exact this
        subst hi0
        go_wp2
        refine wp_loop_rounds 2 ?_
        rw [rounds_succ]
        go_wp2
        go_ret
        have HFIN0 : Hid (S0 = str (F ++ (plc f 0).flatMap E)) := by
          show _ = _
          rw [show plc f 0 = [] from rfl, List.flatMap_nil, List.append_nil]
          exact HS0.out.symm
        exact ⟨congrArg (fun q => Ending.returned (Value.string q)) HFIN0.out, HB1.out⟩
      · rw [List.length_map, plc_len] at hcla ⊢
        have HAC := Lib.hid hac
        clear hac
        go_wp2
        go_loopw [10, 11] (fun sv jv wr => ∃ (j : Nat) (S : ByteArray), j ≤ i ∧ jv = .int .i64 j ∧ sv = .string S ∧ (S.size : Int) ≤ 8388608 ∧ Hid (S = str (F ++ ((plc f i).take j).flatMap E)) ∧ Hid (Below w1.heap.size w1 wr)) (fun _ jv _ => i - (intOf jv).toNat)
        case atStart => exact ⟨0, S0, Nat.zero_le _, rfl, rfl, hS08, HS0', Below.refl _ _⟩
        case round =>
          obtain ⟨j, S, hj, rfl, rfl, hS8, HS, BW2⟩ := hrel
          rename World => wr
          by_cases hlj : j < i
          · obtain ⟨y, hy⟩ : ∃ y, (plc f i)[j]? = some y := by
              have h1 : j < (plc f i).length := by rw [plc_len]; exact hlj
              exact ⟨_, List.getElem?_eq_getElem h1⟩
            have hcy := cell_keep BW2.out (HAC.out j (ms y) (by rw [List.getElem?_map, hy]; rfl))
            have hfl := HPL.out (j + 1)
            rw [flatMap_next hy] at hfl
            obtain ⟨Y, hY⟩ : ∃ Y, ms y = Y := ⟨_, rfl⟩
            have hYe : Y = str (E y) := by rw [← hY, HMS.out y]
            rw [hY] at hcy
            have hY8 : (Y.size : Int) ≤ 8388608 := by rw [hYe, str_size]; rw [List.length_append] at hfl; omega
            have HN2 : Hid (S ++ Y = str (F ++ ((plc f i).take (j + 1)).flatMap E)) := by
              show _ = _
              rw [HS.out, hYe, str_app, flatMap_next hy, List.append_assoc]
            have hSY : ((S ++ Y).size : Int) ≤ 8388608 := by
              rw [HN2.out, str_size, flatMap_next hy, List.length_append]
              have := HF9.out
              omega
            have hlj2 : (j : Int) < (i : Int) := by omega
            clear hy hfl hY hYe
            go_wp2
            go_roundw
            case rel => exact ⟨j + 1, S ++ Y, by omega, by go_num, rfl, hSY, HN2, BW2⟩
            case measure => simp [intOf]; omega
          · have hgj : ¬ (j : Int) < (i : Int) := by omega
            have HFIN : Hid (S = str (F ++ (plc f i).flatMap E)) := by
              show _ = _
              rw [HS.out, List.take_of_length_le (by rw [plc_len]; omega)]
            go_wp2
            go_ret
            exact ⟨congrArg (fun q => Ending.returned (Value.string q)) HFIN.out, btr HB1.out BW2.out⟩
end Go.Proofs.YtfaaagmjmljhiaaGreatDoor
end
section
namespace Go.Proofs.YtfaaagmjmljhiaaGreatDoor
open Go.RowKit Go.Shelf

theorem perm_sum8 : ∀ {l m : List Nat}, l.Perm m → l.sum = m.sum := by
  intro l m h
  induction h with
  | nil => rfl
  | cons a _ ih => rw [List.sum_cons, List.sum_cons, ih]
  | swap a b l => simp only [List.sum_cons]; omega
  | trans _ _ h1 h2 => exact h1.trans h2
theorem sum_range8 (a : Nat → Nat) (l : List Nat) : ∀ k, k ≤ l.length → (∀ i x, l[i]? = some x → a i ≤ 9000 * x) → ((List.range k).map a).sum ≤ 9000 * (l.take k).sum
  | 0, _, _ => by simp
  | k + 1, hk, h => by
    have hx : l[k]? = some l[k] := List.getElem?_eq_getElem (by omega)
    have h1 := sum_range8 a l k (by omega) h
    have h2 := h k _ hx
    rw [List.range_succ, List.map_append, List.sum_append, take_next hx, List.sum_append]
    simp only [List.map_cons, List.map_nil, List.sum_cons, List.sum_nil]
    omega
theorem flat_len8 (L : List (List UInt8)) : L.flatten.length = (L.map List.length).sum := by
  induction L with
  | nil => rfl
  | cons a L ih => rw [List.flatten_cons, List.length_append, ih, List.map_cons, List.sum_cons]
theorem flatMap_len8 {α : Type} (g : α → List UInt8) (L : List α) : (L.flatMap g).length = (L.map fun x => (g x).length).sum := by
  induction L with
  | nil => rfl
  | cons a L ih => rw [List.flatMap_cons, List.length_append, ih, List.map_cons, List.sum_cons]
theorem memB_len (keys : List ByteArray) (E : List (List UInt8)) (i : Nat) (hk : ∀ s ∈ keys, s.size ≤ 4096) : (memB keys E i).length ≤ 4105 + (E.getD i []).length := by
  unfold memB
  rw [List.length_append, List.length_append, bytes_len]
  have h1 := hds_len 3 (keys.getD i ⟨#[]⟩).size
  have h2 : (keys.getD i ⟨#[]⟩).size ≤ 4096 := by
    rw [List.getD_eq_getElem?_getD]
    cases h : keys[i]? with
    | none => exact Nat.zero_le _
    | some s => exact hk s (List.mem_of_getElem? h)
  omega
/-- The bytes are few where the nodes are. -/
theorem encT_len : ∀ T : VT, Gd T → (encT T).length + 4500 ≤ 9000 * T.nodes := by
  intro T
  induction T using VT.ind with
  | h o kids ih =>
    intro hG
    have hx := hG.2.2.own
    have hown := hG.2.own
    have hover := hG.over
    have hrest : restB o kids.length = true := by unfold ownB at hown; rw [Bool.and_eq_true] at hown; exact hown.2
    have hkind := own_kind hown
    have ih2 : ∀ (i x : Nat), (kids.map VT.nodes)[i]? = some x → ((kids.map encT).getD i []).length + 4500 ≤ 9000 * x := fun i x hi => by
      rw [List.getElem?_map] at hi
      cases ht : kids[i]? with
      | none => rw [ht] at hi; cases hi
      | some t =>
        rw [ht] at hi
        cases hi
        rw [List.getD_eq_getElem?_getD, List.getElem?_map, ht]
        exact ih t (List.mem_of_getElem? ht) (hG.kid (List.mem_of_getElem? ht))
    rw [encT_mk, VT.nodes_mk]
    rcases hkind with hk | hk | hk | hk | hk | hk | hk | hk
    · rw [encO_1 hk]
      have h9 := hds_len 7 22
      generalize (hds 7 22).length = q at h9 ⊢
      omega
    · rw [encO_2 hk]; have := hds_len 7 (20 + o.bits.toNat); omega
    · rw [encO_3 hk]; have := intB_len o.g o.x hx; omega
    · rw [encO_4 hk]; have := fltB_len o.bits.toNat; omega
    · rw [encO_5 hk, List.length_append, bytes_len]; have := over_5 (Or.inl hk) hover; have := hds_len 3 o.text.size; omega
    · rw [encO_6 hk, List.length_append, bytes_len]; have := over_5 (Or.inr hk) hover; have := hds_len 2 o.text.size; omega
    · rw [encO_7 hk, List.length_append, flat_len8]
      have h1 := sum_range8 (fun i => ((kids.map encT).getD i []).length) (kids.map VT.nodes) kids.length (by simp) (fun i x hi => by have := ih2 i x hi; omega)
      rw [List.take_of_length_le (by simp)] at h1
      have h2 : (List.range kids.length).map (fun i => ((kids.map encT).getD i []).length) = (kids.map encT).map List.length := by
        apply List.ext_getElem
        · simp
        · intro i h3 h4
          simp [List.getD_eq_getElem?_getD, List.getElem?_eq_getElem (show i < kids.length by simpa using h4)]
      rw [h2] at h1
      have := hds_len 4 kids.length
      omega
    · have hoo := over_8 hk hover
      have hrr := rest_8 hk hrest
      rw [encO_8 hk, List.length_append, flatMap_len8]
      have hp : ((places o.keys).map fun i => (memB o.keys (kids.map encT) i).length).sum = ((List.range o.keys.length).map fun i => (memB o.keys (kids.map encT) i).length).sum :=
        perm_sum8 ((plc_perm (kf o.keys) o.keys.length).map _)
      rw [hp, hrr.1]
      have h1 := sum_range8 (fun i => (memB o.keys (kids.map encT) i).length) (kids.map VT.nodes) kids.length (by simp) (fun i x hi => by
        have h2 := ih2 i x hi
        have h3 := memB_len o.keys (kids.map encT) i hoo.2.2
        omega)
      rw [List.take_of_length_le (by simp)] at h1
      have := hds_len 5 kids.length
      omega
theorem flat_take8 (L : List (List UInt8)) (k : Nat) : (L.take k).flatten.length ≤ L.flatten.length := by
  rw [flat_rest L k, List.length_append]; omega
theorem flatMap_take8 {α : Type} (g : α → List UInt8) (L : List α) (k : Nat) : ((L.take k).flatMap g).length ≤ (L.flatMap g).length := by
  rw [flatMap_rest L g k, List.length_append]; omega
end Go.Proofs.YtfaaagmjmljhiaaGreatDoor
end
section
namespace Go.Proofs.YtfaaagmjmljhiaaGreatDoor
open Go.RowKit Go.Shelf
set_option linter.unusedVariables false

set_option maxRecDepth 100000 in
set_option maxHeartbeats 4000000 in
theorem rfloat_core (b h s : Int) (qh qs : Bool) (h0 : 0 ≤ h) (h1 : h < 65536) (s0 : 0 ≤ s) (s1 : s < 4294967296) (Th Ts Tb9 : ByteArray) (kh9 : (Th.size : Int) ≤ 8388608) (ks9 : (Ts.size : Int) ≤ 8388608) (kb9 : (Tb9.size : Int) ≤ 8388608) (w : World)
    (k1 : ∀ W, Calls Tryz.prog 65 #[.int .u64 b] W fun e w' => e = .returned (.tuple #[.int .u16 h, .bool qh]) ∧ Below W.heap.size W w')
    (k2 : ∀ W, Calls Tryz.prog 66 #[.int .u64 b] W fun e w' => e = .returned (.tuple #[.int .u32 s, .bool qs]) ∧ Below W.heap.size W w')
    (k3 : ∀ W, Calls Tryz.prog 21 #[.int .u64 h, .int .i64 2] W fun e w' => e = .returned (.string Th) ∧ Below W.heap.size W w')
    (k4 : ∀ W, Calls Tryz.prog 21 #[.int .u64 s, .int .i64 4] W fun e w' => e = .returned (.string Ts) ∧ Below W.heap.size W w')
    (k5 : ∀ W, Calls Tryz.prog 21 #[.int .u64 b, .int .i64 8] W fun e w' => e = .returned (.string Tb9) ∧ Below W.heap.size W w') :
    Calls Tryz.prog 38 #[.int .u64 b] w fun e w' => e = .returned (.string (if qh then ⟨#[249]⟩ ++ Th else if qs then ⟨#[250]⟩ ++ Ts else ⟨#[251]⟩ ++ Tb9)) ∧ Below w.heap.size w w' := by
  have K1 := Lib.hid k1; have K2 := Lib.hid k2; have K3 := Lib.hid k3; have K4 := Lib.hid k4; have K5 := Lib.hid k5
  clear k1 k2 k3 k4 k5
  have e1 : ((⟨#[249]⟩ : ByteArray).size : Int) ≤ 8388608 := by decide
  have e2 : ((⟨#[250]⟩ : ByteArray).size : Int) ≤ 8388608 := by decide
  have e3 : ((⟨#[251]⟩ : ByteArray).size : Int) ≤ 8388608 := by decide
  cases qh with
  | true =>
    go_enter Tryz.func38, Tryz.ntmps38
    go_wp2_with fail
    ((with_reducible refine (K1.out _).mono ?_); rintro e w1 ⟨rfl, hb1⟩)
    go_wp2_with fail
    ((with_reducible refine (K3.out _).mono ?_); rintro e w2 ⟨rfl, hb2⟩)
    go_wp2
    go_ret
    exact ⟨rfl, btr hb1 hb2⟩
  | false =>
    cases qs with
    | true =>
      go_enter Tryz.func38, Tryz.ntmps38
      go_wp2_with fail
      ((with_reducible refine (K1.out _).mono ?_); rintro e w1 ⟨rfl, hb1⟩)
      go_wp2_with fail
      ((with_reducible refine (K2.out _).mono ?_); rintro e w2 ⟨rfl, hb2⟩)
      go_wp2_with fail
      ((with_reducible refine (K4.out _).mono ?_); rintro e w3 ⟨rfl, hb3⟩)
      go_wp2
      go_ret
      exact ⟨rfl, btr (btr hb1 hb2) hb3⟩
    | false =>
      go_enter Tryz.func38, Tryz.ntmps38
      go_wp2_with fail
      ((with_reducible refine (K1.out _).mono ?_); rintro e w1 ⟨rfl, hb1⟩)
      go_wp2_with fail
      ((with_reducible refine (K2.out _).mono ?_); rintro e w2 ⟨rfl, hb2⟩)
      go_wp2_with fail
      ((with_reducible refine (K5.out _).mono ?_); rintro e w3 ⟨rfl, hb3⟩)
      go_wp2
      go_ret
      exact ⟨rfl, btr (btr hb1 hb2) hb3⟩
theorem rfloat (b : Nat) (hb : b < 18446744073709551616) (w : World) : Calls Tryz.prog 38 #[.int .u64 b] w fun e w' => e = .returned (.string (str (fltB b))) ∧ Below w.heap.size w w' := by
  have l1 := tosw_lt hb
  have l2 := tohw_lt hb
  have z2 : ∀ n, ((str (be n 2)).size : Int) ≤ 8388608 := fun n => by rw [str_size, be_len]; decide
  have z4 : ∀ n, ((str (be n 4)).size : Int) ≤ 8388608 := fun n => by rw [str_size, be_len]; decide
  have z8 : ∀ n, ((str (be n 8)).size : Int) ≤ 8388608 := fun n => by rw [str_size, be_len]; decide
  have h := rfloat_core (b : Int) ((toh b).1 : Nat) ((tos b).1 : Nat) (toh b).2 (tos b).2 (by omega) (by omega) (by omega) (by omega) (str (be (toh b).1 2)) (str (be (tos b).1 4)) (str (be b 8)) (z2 _) (z4 _) (z8 _) w
    (fun W => rthin_Half (b : Int) _ _ (by omega) (by omega) W (fun W => rthin11 b hb W)) (fun W => rthin_Single (b : Int) _ _ (by omega) (by omega) W (fun W => rthin24 b hb W))
    (fun W => rbytes _ 2 (by omega) (by decide) W) (fun W => rbytes _ 4 (by omega) (by decide) W) (fun W => rbytes _ 8 hb (by decide) W)
  have e : str (fltB b) = if (toh b).2 then ⟨#[249]⟩ ++ str (be (toh b).1 2) else if (tos b).2 then ⟨#[250]⟩ ++ str (be (tos b).1 4) else ⟨#[251]⟩ ++ str (be b 8) := by
    have s1 : (⟨#[249]⟩ : ByteArray) = str [249] := rfl
    have s2 : (⟨#[250]⟩ : ByteArray) = str [250] := rfl
    have s3 : (⟨#[251]⟩ : ByteArray) = str [251] := rfl
    unfold fltB
    rw [s1, s2, s3, str_app, str_app, str_app]
    split
    · unfold hby; rw [hsz_25]; rfl
    · split
      · unfold hby; rw [hsz_26]; rfl
      · unfold hby; rw [hsz_27]; rfl
  rw [e]
  exact h
/-- item of all that may be and has few nodes. -/
theorem ritem_any : ∀ T : VT, Gd T → T.nodes ≤ 800 → ∀ W, T.In W → Calls Tryz.prog 20 #[T.val] W fun e w' => e = .returned (.string (str (encT T))) ∧ Below W.heap.size W w' := by
  intro T
  induction T using VT.ind with
  | h o kids ih =>
    intro hG hn W hI
    have hlen := encT_len _ hG
    have hown := hG.2.own
    have hover := hG.over
    have hwf : o.WF kids.length := hI.wf
    obtain ⟨kb, koff, hKK⟩ := hI.keys'
    have hins : ∀ (i : Nat) (t : VT), kids[i]? = some t → t.In W := fun i t h => hI.kid h
    have hKA := hI.hl
    have hkn : ∀ t ∈ kids, t.nodes ≤ 800 := fun t ht => by have := VT.nodes_kid (o := o) ht; omega
    have ih2 : ∀ t ∈ kids, ∀ W, t.In W → Calls Tryz.prog 20 #[t.val] W fun e w' => e = .returned (.string (str (encT t))) ∧ Below W.heap.size W w' := fun t ht W hW => ih t ht (hG.kid ht) (hkn t ht) W hW
    have hkl : ∀ t ∈ kids, (encT t).length ≤ 8000000 := fun t ht => by have := encT_len t (hG.kid ht); have := hkn t ht; omega
    have hrest : restB o kids.length = true := by unfold ownB at hown; rw [Bool.and_eq_true] at hown; exact hown.2
    have hkind := own_kind hown
    have hok := own_okI hown hwf.2.1
    have htot : (encT (.mk o kids)).length ≤ 8000000 := by omega
    clear ih hlen
    rw [encT_mk] at htot ⊢
    show Calls Tryz.prog 20 #[V10 o.kind o.g (lb 0 o.x) (lb 1 o.x) (lb 2 o.x) (lb 3 o.x) o.bits o.text o.la kids.length o.lcap o.ka o.keys.length o.kcap] W _
    rcases hkind with hk | hk | hk | hk | hk | hk | hk | hk
    · rw [encO_1 hk, hk]
      exact ritem_null o.g _ _ _ _ o.la _ o.lcap o.ka _ o.kcap W o.bits o.text
    · rw [encO_2 hk, hk]
      exact ritem_bool o.g _ _ _ _ o.la _ o.lcap o.ka _ o.kcap W o.bits hwf.2.2.1.1 (rest_2 hk hrest) o.text
    · rw [encO_3 hk, hk]
      exact ritem_whole o.g _ _ _ _ o.la _ o.lcap o.ka _ o.kcap W _ o.bits o.text (fun W => rwhole_all o.g o.x hwf.2.1 (fun hg => by have := hok hk; rcases Nat.eq_zero_or_pos o.x with h0 | h0; exact absurd ⟨hg, h0⟩ this; exact h0) W)
    · rw [encO_4 hk, hk]
      obtain ⟨b, hb⟩ : ∃ b : Nat, o.bits = b := ⟨o.bits.toNat, (Int.toNat_of_nonneg hwf.2.2.1.1).symm⟩
      have hb2 : b < 18446744073709551616 := by have := hwf.2.2.1.2; rw [hb] at this; omega
      rw [hb, Int.toNat_natCast]
      exact ritem_float o.g _ _ _ _ o.la _ o.lcap o.ka _ o.kcap W _ b o.text (fun W => rfloat b hb2 W)
    · have hs := over_5 (Or.inl hk) hover
      rw [encO_5 hk, hk]
      have h := ritem_text o.g (lb 0 o.x) (lb 1 o.x) (lb 2 o.x) (lb 3 o.x) o.la kids.length o.lcap o.ka o.keys.length o.kcap W 5 3 (Or.inl ⟨rfl, rfl⟩) (str (hds 3 o.text.size)) (by rw [str_size]; have := hds_len 3 o.text.size; omega) o.bits o.text (by omega) (fun W => rhead 3 o.text.size (by decide) (by omega) W)
      have e : str (hds 3 o.text.size) ++ o.text = str (hds 3 o.text.size ++ o.text.data.toList) := by rw [← str_app]; rfl
      rw [e] at h
      exact h
    · have hs := over_5 (Or.inr hk) hover
      rw [encO_6 hk, hk]
      have h := ritem_text o.g (lb 0 o.x) (lb 1 o.x) (lb 2 o.x) (lb 3 o.x) o.la kids.length o.lcap o.ka o.keys.length o.kcap W 6 2 (Or.inr ⟨rfl, rfl⟩) (str (hds 2 o.text.size)) (by rw [str_size]; have := hds_len 2 o.text.size; omega) o.bits o.text (by omega) (fun W => rhead 2 o.text.size (by decide) (by omega) W)
      have e : str (hds 2 o.text.size) ++ o.text = str (hds 2 o.text.size ++ o.text.data.toList) := by rw [← str_app]; rfl
      rw [e] at h
      exact h
    · have hn7 := over_7 hk hover
      obtain ⟨bb, off, ha, hb⟩ := hKA
      rw [encO_7 hk] at htot
      rw [encO_7 hk, hk]
      rw [List.length_append] at htot
      exact ritem_arr o.g _ _ _ _ o.bits o.text o.la o.lcap o.ka o.keys.length o.kcap kids bb off W ⟨ha, hb, hins, by omega⟩ hn7 (fun k => Nat.le_trans (flat_take8 _ k) (by omega)) hkl ih2
    · have hrr := rest_8 hk hrest
      have hoo := over_8 hk hover
      obtain ⟨bb, off, ha, hb⟩ := hKA
      rw [encO_8 hk] at htot
      rw [encO_8 hk, hk]
      rw [List.length_append] at htot
      exact ritem_map o.g _ _ _ _ o.bits o.text o.la o.lcap o.ka o.kcap o.keys kb koff kids bb off W hKK ⟨ha, hb, hins, by omega⟩ hrr.2 hoo.2.2 hrr.1 hoo.2.1 (fun k => Nat.le_trans (flatMap_take8 _ _ k) (by omega)) hkl ih2
section
variable (kd : Int) (g : Bool) (x0 x1 x2 x3 bi : Int) (s : ByteArray) (la : Option Addr) (n lc : Nat) (ka : Option Addr) (m kc : Nat) (w : World)
set_option maxRecDepth 100000 in
theorem renc_no (z : Int) (hz : z ≠ 0)
    (k1 : ∀ W, Below w.heap.size w W → Calls Tryz.prog 19 #[V10 kd g x0 x1 x2 x3 bi s la n lc ka m kc] W fun e w' => e = .returned (.int .i64 z) ∧ Below W.heap.size W w') :
    Calls Tryz.prog 11 #[V10 kd g x0 x1 x2 x3 bi s la n lc ka m kc] w fun e w' => e = .returned (.tuple #[.string ⟨#[]⟩, .int .i64 z]) ∧ Below w.heap.size w w' := by
  have K1 := Lib.hid k1
  clear k1
  have hz2 : (z != 0) = true := by simpa using hz
  have B0 := Lib.hid (bal (Below.refl _ w) (.cells #[.int .i64 kd, .bool g, .int .u64 x0, .int .u64 x1, .int .u64 x2, .int .u64 x3, .int .u64 bi, .string s, .slice la n lc, .slice ka m kc] 33))
  go_enter Tryz.func11, Tryz.ntmps11
  go_wp2_with (go_at_call 19; ((with_reducible refine (K1.out _ B0.out).mono ?_); rintro e w1 ⟨rfl, hb⟩; have B1 := Lib.hid (btr B0.out hb); clear hb))
  go_ret2
  exact ⟨rfl, B1.out⟩
set_option maxRecDepth 100000 in
theorem renc_yes (S : ByteArray) (long : Bool) (hS : decide (65536 < S.size) = long)
    (k1 : ∀ W, Below w.heap.size w W → Calls Tryz.prog 19 #[V10 kd g x0 x1 x2 x3 bi s la n lc ka m kc] W fun e w' => e = .returned (.int .i64 0) ∧ Below W.heap.size W w')
    (k2 : ∀ W, Below w.heap.size w W → Calls Tryz.prog 20 #[V10 kd g x0 x1 x2 x3 bi s la n lc ka m kc] W fun e w' => e = .returned (.string S) ∧ Below W.heap.size W w') :
    Calls Tryz.prog 11 #[V10 kd g x0 x1 x2 x3 bi s la n lc ka m kc] w fun e w' => e = .returned (.tuple #[.string (if long then ⟨#[]⟩ else S), .int .i64 (if long then 8 else 0)]) ∧ Below w.heap.size w w' := by
  have K1 := Lib.hid k1; have K2 := Lib.hid k2
  clear k1 k2
  have B0 := Lib.hid (bal (Below.refl _ w) (.cells #[.int .i64 kd, .bool g, .int .u64 x0, .int .u64 x1, .int .u64 x2, .int .u64 x3, .int .u64 bi, .string s, .slice la n lc, .slice ka m kc] 33))
  have R0 := Lib.hid (Row10.new w (.int .i64 kd) (.bool g) (.int .u64 x0) (.int .u64 x1) (.int .u64 x2) (.int .u64 x3) (.int .u64 bi) (.string s) (.slice la n lc) (.slice ka m kc))
  cases long with
  | true =>
    have h1 : (65536 : Int) < (S.size : Int) := by have := of_decide_eq_true hS; omega
    clear hS
    go_enter Tryz.func11, Tryz.ntmps11
    go_wp2_with (first
      | (go_at_call 19; ((with_reducible refine (K1.out _ B0.out).mono ?_); rintro e w1 ⟨rfl, hb⟩; have B1 := Lib.hid (btr B0.out hb); have R1 := Lib.hid (Row10.keep hb R0.out); obtain ⟨p0, p1, p2, p3, p4, p5, p6, p7, p8, p9⟩ := R1.out.parts; clear hb))
      | (go_at_call 20; ((with_reducible refine (K2.out _ B1.out).mono ?_); rintro e w2 ⟨rfl, hb2⟩)))
    go_ret2
    exact ⟨rfl, btr B1.out hb2⟩
  | false =>
    have h1 : ¬ (65536 : Int) < (S.size : Int) := by have := of_decide_eq_false hS; omega
    clear hS
    go_enter Tryz.func11, Tryz.ntmps11
    go_wp2_with (first
      | (go_at_call 19; ((with_reducible refine (K1.out _ B0.out).mono ?_); rintro e w1 ⟨rfl, hb⟩; have B1 := Lib.hid (btr B0.out hb); have R1 := Lib.hid (Row10.keep hb R0.out); obtain ⟨p0, p1, p2, p3, p4, p5, p6, p7, p8, p9⟩ := R1.out.parts; clear hb))
      | (go_at_call 20; ((with_reducible refine (K2.out _ B1.out).mono ?_); rintro e w2 ⟨rfl, hb2⟩)))
    go_ret2
    exact ⟨rfl, btr B1.out hb2⟩
end
/-- What the reference's EncodeCBOR answers. -/
theorem renc_any (T : VT) (w : World) (hQ : Qv T w) (hn : T.nodes ≤ 400) (hd : T.depth ≤ 40) (hE : T.Every TinyO) :
    Calls Tryz.prog 11 #[T.val] w fun e w' => (e = .returned (.tuple #[.string (if mayN T = 0 then (if decide (65536 < (encT T).length) then ⟨#[]⟩ else str (encT T)) else ⟨#[]⟩), .int .i64 (if mayN T = 0 then (if decide (65536 < (encT T).length) then 8 else 0) else mayN T)])) ∧ Below w.heap.size w w' := by
  have k1 := fun W (hb : Below w.heap.size w W) => r6may_few T W (hQ.keep hb) hn hd hE
  by_cases h0 : mayN T = 0
  · rw [if_pos h0, if_pos h0]
    rw [h0] at k1
    have hG := (gd_of hQ.ins h0).1
    have k2 := fun W (hb : Below w.heap.size w W) => ritem_any T hG (by omega) W (hQ.ins.keep hb)
    exact renc_yes _ _ _ _ _ _ _ _ _ _ _ _ _ _ w (str (encT T)) _ (by rw [str_size]) k1 k2
  · rw [if_neg h0, if_neg h0]
    exact renc_no _ _ _ _ _ _ _ _ _ _ _ _ _ _ w (mayN T) h0 k1
end Go.Proofs.YtfaaagmjmljhiaaGreatDoor
end
