/-
  ValBare ValNames ValEqO ValWrong, one behind the other: a claim holds at most 60 files.
-/
import Derived.Test.YtebfggiodhaahaaGreatDoorValOver
import Derived.Test.YtebfggiodhaahaaGreatDoorGF
import Derived.Test.YtebfggiodhaahaaGreatDoorGE
import Derived.Lib.QuietBelow
import Derived.BigQuiet
section
namespace Go.Proofs.YtebfggiodhaahaaGreatDoor
open Go.RowKit Go.Shelf

/-- An outline's value. -/
abbrev O10 (k : Int) (g : Bool) (x0 x1 x2 x3 b : Int) (s : ByteArray) (m n : Nat) : Value :=
  .agg #[.int .i64 k, .bool g, .int .u64 x0, .int .u64 x1, .int .u64 x2, .int .u64 x3, .int .u64 b, .string s, .int .i64 (m : Int), .int .i64 (n : Int)]

theorem outline_any (kd : Int) (g : Bool) (x0 x1 x2 x3 b : Int) (s : ByteArray) (la : Option Addr) (n lc : Nat) (ka : Option Addr) (m kc : Nat) (w : World) :
    Calls Tryz.prog 48 #[V10 kd g x0 x1 x2 x3 b s la n lc ka m kc] w fun e w' => e = .returned (O10 kd g x0 x1 x2 x3 b s m n) ∧ Below w.heap.size w w' := by
  go_enter Tryz.func48, Tryz.ntmps48
  go_wp2
  exact bodyPost_ret (v := O10 kd g x0 x1 x2 x3 b s m n) (by simp [results, Tryz.results48, go_sem]) rfl ⟨rfl, bal (bal (Below.refl _ _) _) _⟩
theorem bare_none (kd : Int) (h2 : (kd == 2) = false) (h3 : (kd == 3) = false) (h4 : (kd == 4) = false) (h5 : (kd == 5) = false) (h6 : (kd == 6) = false) (h7 : (kd == 7) = false) (h8 : (kd == 8) = false) (g : Bool) (x0 x1 x2 x3 b : Int) (s : ByteArray) (la : Option Addr) (n lc : Nat) (ka : Option Addr) (m kc : Nat) (w : World) :
    Calls Tryz.prog 49 #[V10 kd g x0 x1 x2 x3 b s la n lc ka m kc] w fun e w' => e = .returned (V10 kd false 0 0 0 0 0 ⟨#[]⟩ none 0 0 none 0 0) ∧ Below w.heap.size w w' := by
  go_enter Tryz.func49, Tryz.ntmps49
  go_wp2
  exact bodyPost_ret (v := V10 kd false 0 0 0 0 0 ⟨#[]⟩ none 0 0 none 0 0) (by simp [results, Tryz.results49, go_sem]) rfl ⟨rfl, by repeat (first | (with_reducible exact Below.refl _ _) | (with_reducible refine bal ?_ _) | (with_reducible refine Below.drew ?_) | (with_reducible refine bdn ?_ _))⟩
theorem bare_k1 (g : Bool) (x0 x1 x2 x3 b : Int) (s : ByteArray) (la : Option Addr) (n lc : Nat) (ka : Option Addr) (m kc : Nat) (w : World) :
    Calls Tryz.prog 49 #[V10 1 g x0 x1 x2 x3 b s la n lc ka m kc] w fun e w' => e = .returned (V10 1 false 0 0 0 0 0 ⟨#[]⟩ none 0 0 none 0 0) ∧ Below w.heap.size w w' := by
  go_enter Tryz.func49, Tryz.ntmps49
  go_wp2
  exact bodyPost_ret (v := V10 1 false 0 0 0 0 0 ⟨#[]⟩ none 0 0 none 0 0) (by simp [results, Tryz.results49, go_sem]) rfl ⟨rfl, by repeat (first | (with_reducible exact Below.refl _ _) | (with_reducible refine bal ?_ _) | (with_reducible refine Below.drew ?_) | (with_reducible refine bdn ?_ _))⟩
theorem bare_k2 (g : Bool) (x0 x1 x2 x3 b : Int) (s : ByteArray) (la : Option Addr) (n lc : Nat) (ka : Option Addr) (m kc : Nat) (w : World) :
    Calls Tryz.prog 49 #[V10 2 g x0 x1 x2 x3 b s la n lc ka m kc] w fun e w' => e = .returned (V10 2 false 0 0 0 0 b ⟨#[]⟩ none 0 0 none 0 0) ∧ Below w.heap.size w w' := by
  go_enter Tryz.func49, Tryz.ntmps49
  go_wp2
  exact bodyPost_ret (v := V10 2 false 0 0 0 0 b ⟨#[]⟩ none 0 0 none 0 0) (by simp [results, Tryz.results49, go_sem]) rfl ⟨rfl, by repeat (first | (with_reducible exact Below.refl _ _) | (with_reducible refine bal ?_ _) | (with_reducible refine Below.drew ?_) | (with_reducible refine bdn ?_ _))⟩
theorem bare_k4 (g : Bool) (x0 x1 x2 x3 b : Int) (s : ByteArray) (la : Option Addr) (n lc : Nat) (ka : Option Addr) (m kc : Nat) (w : World) :
    Calls Tryz.prog 49 #[V10 4 g x0 x1 x2 x3 b s la n lc ka m kc] w fun e w' => e = .returned (V10 4 false 0 0 0 0 b ⟨#[]⟩ none 0 0 none 0 0) ∧ Below w.heap.size w w' := by
  go_enter Tryz.func49, Tryz.ntmps49
  go_wp2
  exact bodyPost_ret (v := V10 4 false 0 0 0 0 b ⟨#[]⟩ none 0 0 none 0 0) (by simp [results, Tryz.results49, go_sem]) rfl ⟨rfl, by repeat (first | (with_reducible exact Below.refl _ _) | (with_reducible refine bal ?_ _) | (with_reducible refine Below.drew ?_) | (with_reducible refine bdn ?_ _))⟩
theorem bare_k3 (g : Bool) (x0 x1 x2 x3 b : Int) (s : ByteArray) (la : Option Addr) (n lc : Nat) (ka : Option Addr) (m kc : Nat) (w : World) :
    Calls Tryz.prog 49 #[V10 3 g x0 x1 x2 x3 b s la n lc ka m kc] w fun e w' => e = .returned (V10 3 g x0 x1 x2 x3 0 ⟨#[]⟩ none 0 0 none 0 0) ∧ Below w.heap.size w w' := by
  go_enter Tryz.func49, Tryz.ntmps49
  go_wp2
  exact bodyPost_ret (v := V10 3 g x0 x1 x2 x3 0 ⟨#[]⟩ none 0 0 none 0 0) (by simp [results, Tryz.results49, go_sem]) rfl ⟨rfl, by repeat (first | (with_reducible exact Below.refl _ _) | (with_reducible refine bal ?_ _) | (with_reducible refine Below.drew ?_) | (with_reducible refine bdn ?_ _))⟩
theorem bare_k5 (g : Bool) (x0 x1 x2 x3 b : Int) (s : ByteArray) (la : Option Addr) (n lc : Nat) (ka : Option Addr) (m kc : Nat) (w : World) :
    Calls Tryz.prog 49 #[V10 5 g x0 x1 x2 x3 b s la n lc ka m kc] w fun e w' => e = .returned (V10 5 false 0 0 0 0 0 s none 0 0 none 0 0) ∧ Below w.heap.size w w' := by
  go_enter Tryz.func49, Tryz.ntmps49
  go_wp2
  exact bodyPost_ret (v := V10 5 false 0 0 0 0 0 s none 0 0 none 0 0) (by simp [results, Tryz.results49, go_sem]) rfl ⟨rfl, by repeat (first | (with_reducible exact Below.refl _ _) | (with_reducible refine bal ?_ _) | (with_reducible refine Below.drew ?_) | (with_reducible refine bdn ?_ _))⟩
theorem bare_k6 (g : Bool) (x0 x1 x2 x3 b : Int) (s : ByteArray) (la : Option Addr) (n lc : Nat) (ka : Option Addr) (m kc : Nat) (w : World) :
    Calls Tryz.prog 49 #[V10 6 g x0 x1 x2 x3 b s la n lc ka m kc] w fun e w' => e = .returned (V10 6 false 0 0 0 0 0 s none 0 0 none 0 0) ∧ Below w.heap.size w w' := by
  go_enter Tryz.func49, Tryz.ntmps49
  go_wp2
  exact bodyPost_ret (v := V10 6 false 0 0 0 0 0 s none 0 0 none 0 0) (by simp [results, Tryz.results49, go_sem]) rfl ⟨rfl, by repeat (first | (with_reducible exact Below.refl _ _) | (with_reducible refine bal ?_ _) | (with_reducible refine Below.drew ?_) | (with_reducible refine bdn ?_ _))⟩
theorem bare_k7 (g : Bool) (x0 x1 x2 x3 b : Int) (s : ByteArray) (la : Option Addr) (n lc : Nat) (ka : Option Addr) (m kc : Nat) (w : World) :
    Calls Tryz.prog 49 #[V10 7 g x0 x1 x2 x3 b s la n lc ka m kc] w fun e w' => e = .returned (V10 7 false 0 0 0 0 0 ⟨#[]⟩ la n lc none 0 0) ∧ Below w.heap.size w w' := by
  go_enter Tryz.func49, Tryz.ntmps49
  go_wp2
  exact bodyPost_ret (v := V10 7 false 0 0 0 0 0 ⟨#[]⟩ la n lc none 0 0) (by simp [results, Tryz.results49, go_sem]) rfl ⟨rfl, by repeat (first | (with_reducible exact Below.refl _ _) | (with_reducible refine bal ?_ _) | (with_reducible refine Below.drew ?_) | (with_reducible refine bdn ?_ _))⟩
theorem bare_k8 (g : Bool) (x0 x1 x2 x3 b : Int) (s : ByteArray) (la : Option Addr) (n lc : Nat) (ka : Option Addr) (m kc : Nat) (w : World) :
    Calls Tryz.prog 49 #[V10 8 g x0 x1 x2 x3 b s la n lc ka m kc] w fun e w' => e = .returned (V10 8 false 0 0 0 0 0 ⟨#[]⟩ la n lc ka m kc) ∧ Below w.heap.size w w' := by
  go_enter Tryz.func49, Tryz.ntmps49
  go_wp2
  go_region
  all_goals
    go_wp2
    exact bodyPost_ret (v := V10 8 false 0 0 0 0 0 ⟨#[]⟩ la n lc ka m kc) (by simp [results, Tryz.results49, go_sem]) rfl ⟨rfl, by repeat (first | (with_reducible exact Below.refl _ _) | (with_reducible refine bal ?_ _) | (with_reducible refine Below.drew ?_) | (with_reducible refine bdn ?_ _))⟩
end Go.Proofs.YtebfggiodhaahaaGreatDoor
end
section
namespace Go.Proofs.YtebfggiodhaahaaGreatDoor
open Go.RowKit Go.Shelf

/-- Is a text not behind another one, by bytes? -/
def leS (a b : ByteArray) : Bool := Op.bytesLess a.toList b.toList || a.toList == b.toList
/-- Is the name at a place such as it may be? -/
def keyOk (keys : List ByteArray) (j : Nat) : Bool := uval (keys.getD j ⟨#[]⟩).data.toList && (j == 0 || !leS (keys.getD j ⟨#[]⟩) (keys.getD (j - 1) ⟨#[]⟩))
def namesB (keys : List ByteArray) : Bool := (List.range keys.length).all (keyOk keys)
theorem namesB_all {keys : List ByteArray} {k : Nat} (h : ∀ j, j < k → keyOk keys j = true) (hk : keys.length ≤ k) : namesB keys = true := by
  unfold namesB
  rw [List.all_eq_true]
  intro j hj
  exact h j (by have := List.mem_range.1 hj; omega)
theorem namesB_not {keys : List ByteArray} {k : Nat} (h : keyOk keys k = false) (hk : k < keys.length) : namesB keys = false := by
  unfold namesB
  rw [Bool.eq_false_iff]
  intro ha
  rw [List.all_eq_true] at ha
  have := ha k (List.mem_range.2 hk)
  rw [h] at this
  cases this
theorem getD_at {keys : List ByteArray} {k : Nat} {s : ByteArray} (h : keys[k]? = some s) : keys.getD k ⟨#[]⟩ = s := by rw [List.getD_eq_getElem?_getD, h]; rfl
theorem keyOk_zero {keys : List ByteArray} {s : ByteArray} {q : Bool} (h : keys[0]? = some s) (hq : uval s.data.toList = q) : keyOk keys 0 = q := by unfold keyOk; rw [getD_at h, hq]; simp
theorem keyOk_bad {keys : List ByteArray} {k : Nat} {s : ByteArray} (h : keys[k]? = some s) (hq : uval s.data.toList = false) : keyOk keys k = false := by unfold keyOk; rw [getD_at h, hq]; rfl
theorem keyOk_succ {keys : List ByteArray} {k : Nat} {s r : ByteArray} {q : Bool} (h : keys[k + 1]? = some s) (h0 : keys[k]? = some r) (hq : uval s.data.toList = true) (hl : leS s r = q) : keyOk keys (k + 1) = !q := by
  unfold keyOk; rw [getD_at h, hq, Nat.add_sub_cancel, getD_at h0, hl]; rfl

theorem all_one {keys : List ByteArray} (h : keyOk keys 0 = true) : Hid (∀ j, j < 1 → keyOk keys j = true) := fun j hj => by
  obtain rfl : j = 0 := by omega
  exact h
set_option maxHeartbeats 1000000 in
theorem names_any (ka : Option Addr) (kc : Nat) (keys : List ByteArray) (kb koff : Nat) (w : World) (hK : KeysL w ka keys kb koff) (hz : ∀ s ∈ keys, s.size ≤ 140737488351232) :
    Calls Tryz.prog 53 #[.slice ka keys.length kc] w fun e w' => e = .returned (.bool (namesB keys)) ∧ Below w.heap.size w w' := by
  have hn := hK.len
  have HK := Lib.hid hK; have HS := Lib.hid hz
  clear hK hz
  go_enter Tryz.func53, Tryz.ntmps53
  go_wp2
  go_loopw [3, 4, 7] (fun _ _ i wr => ∃ k : Nat, k ≤ keys.length ∧ i = .int .i64 k ∧ Hid (Below w.heap.size w wr) ∧ Hid (∀ j, j < k → keyOk keys j = true)) (fun _ _ i _ => keys.length - (intOf i).toNat)
  case atStart => exact ⟨0, Nat.zero_le _, rfl, Below.refl _ _, (show Hid _ from fun j hj => absurd hj (Nat.not_lt_zero _))⟩
  case round =>
    obtain ⟨k, hk, rfl, BW, AN⟩ := hrel
    by_cases hlt : k < keys.length
    · obtain ⟨s, hs, hm⟩ := key_at hlt
      have hr := cell_keep BW.out (HK.out.cells k s hs)
      obtain rfl : ka = some ⟨kb, koff, none⟩ := HK.out.ka (by omega)
      have hv := fun W => valid_any s (HS.out s hm) W
      cases hq : uval s.data.toList with
      | false =>
        rw [hq] at hv
        have HF := Lib.hid (namesB_not (keyOk_bad hs hq) hlt)
        have HV := Lib.hid hv
        clear hv hq hs hm
        go_wp2_with (go_at_call 52; ((with_reducible refine (HV.out _).mono ?_); rintro e w1 ⟨rfl, rfl⟩))
        go_ret
        exact ⟨ret_bool HF.out.symm, BW.out⟩
      | true =>
        rw [hq] at hv
        have HV := Lib.hid hv
        cases k with
        | zero =>
          have HO := Lib.hid (keyOk_zero hs hq)
          rw [Nat.add_zero] at hr
          clear hv hq hs hm
          go_wp2_with (go_at_call 52; ((with_reducible refine (HV.out _).mono ?_); rintro e w1 ⟨rfl, rfl⟩))
          go_roundw
          case rel => exact ⟨1, by omega, rfl, BW.out, all_one HO.out⟩
          case measure => simp [intOf]; omega
        | succ j =>
          obtain ⟨r, hr0, _⟩ := key_at (show j < keys.length by omega)
          have hrc := cell_keep BW.out (HK.out.cells j r hr0)
          cases hl : leS s r with
          | true =>
            have HF := Lib.hid (namesB_not (keyOk_succ hs hr0 hq hl) hlt)
            unfold leS at hl
            clear hv hq hs hm hr0
            go_wp2_with (go_at_call 52; ((with_reducible refine (HV.out _).mono ?_); rintro e w1 ⟨rfl, rfl⟩))
            go_ret
            exact ⟨ret_bool HF.out.symm, BW.out⟩
          | false =>
            have HO := Lib.hid (keyOk_succ hs hr0 hq hl)
            unfold leS at hl
            clear hv hq hs hm hr0
            go_wp2_with (go_at_call 52; ((with_reducible refine (HV.out _).mono ?_); rintro e w1 ⟨rfl, rfl⟩))
            go_roundw
            case rel => exact ⟨j + 1 + 1, by omega, by go_num, BW.out, (show Hid _ from fun i hi => by
                by_cases e : i = j + 1
                · subst e; exact HO.out
                · exact AN.out i (by omega))⟩
            case measure => simp [intOf]; omega
    · have hge : ¬ (k : Int) < (keys.length : Int) := by omega
      have HF := Lib.hid (namesB_all AN.out (by omega))
      go_wp2
      go_ret
      exact ⟨ret_bool HF.out.symm, BW.out⟩
end Go.Proofs.YtebfggiodhaahaaGreatDoor
end
section
namespace Go.Proofs.YtebfggiodhaahaaGreatDoor
open Go.RowKit Go.Shelf
open Go.Sort (grow)

/-- Are two outlines the same? -/
def eqO (k : Int) (g : Bool) (a0 a1 a2 a3 b : Int) (s : ByteArray) (m n : Int) (k' : Int) (h : Bool) (b0 b1 b2 b3 b' : Int) (s' : ByteArray) (m' n' : Int) : Bool :=
  k == k' && (eq5 g a0 a1 a2 a3 h b0 b1 b2 b3 && (b == b' && (s.toList == s'.toList && (m == m' && n == n'))))
theorem equalIn_int5_at (d : Nat) (g h : Bool) (a0 a1 a2 a3 b0 b1 b2 b3 : Int) (w : World) :
    (Op.equalIn (d + 3) 28 (.agg #[.bool g, .int .u64 a0, .int .u64 a1, .int .u64 a2, .int .u64 a3]) (.agg #[.bool h, .int .u64 b0, .int .u64 b1, .int .u64 b2, .int .u64 b3])).run Tryz.prog w = .ok (eq5 g a0 a1 a2 a3 h b0 b1 b2 b3) w := by
  have hf : Tryz.prog.underlying 28 = some (.struct (Tryz.prog.fieldsOf 28)) := by kernel_rfl
  have hs : Tryz.prog.stoodInHeld 28 = false := by kernel_rfl
  have p0 : ∀ (u v0 v1 v2 v3 : Value) (W : World), (part 4 #[u, v0, v1, v2, v3] 0).run Tryz.prog W = .ok u W := fun u v0 v1 v2 v3 W => by
    have hb : ∀ W, (isAgg 4).run Tryz.prog W = .ok false W := fun _ => by kernel_rfl
    unfold part; simp [go_sem, hb]
  have p1 : ∀ (u v0 v1 v2 v3 : Value) (W : World), (part 26 #[u, v0, v1, v2, v3] 1).run Tryz.prog W = .ok (.agg #[v0, v1, v2, v3]) W := fun u v0 v1 v2 v3 W => by
    have hb : ∀ W, (isAgg 26).run Tryz.prog W = .ok true W := fun _ => by kernel_rfl
    have hz : ∀ W, (Go.sizeOf 26).run Tryz.prog W = .ok 4 W := fun _ => by kernel_rfl
    unfold part; simp [go_sem, hb, hz]
  rw [show (d + 3 : Nat) = (d + 2) + 1 from rfl, run_equalIn_struct _ _ _ _ _ hf hs]
  have hfl : (Tryz.prog.fieldsOf 28).toList = [{ name := "Neg", type := 4, offset := 0, embedded := false, tag := "", pkgPath := "", byteOffset := 0 }, { name := "N", type := 26, offset := 1, embedded := false, tag := "", pkgPath := "", byteOffset := 8 }] := by kernel_rfl
  rw [hfl]
  have qb : ∀ W, (Op.equalIn (d + 2) 4 (.bool g) (.bool h)).run Tryz.prog W = .ok (g == h) W := fun W => run_equalIn_bool' W (d + 1) _ _ _ (by kernel_rfl)
  have qn : ∀ W, (Op.equalIn (d + 2) 26 (.agg #[.int .u64 a0, .int .u64 a1, .int .u64 a2, .int .u64 a3]) (.agg #[.int .u64 b0, .int .u64 b1, .int .u64 b2, .int .u64 b3])).run Tryz.prog W = .ok (eq4 a0 a1 a2 a3 b0 b1 b2 b3) W := fun W => equalIn_nat_at d _ _ _ _ _ _ _ _ W
  unfold eq5
  have n1 : ("Neg" : String) ≠ "_" := by decide
  have n2 : ("N" : String) ≠ "_" := by decide
  simp only [Op.eqFields, ne_eq, n1, n2, not_false_eq_true, if_true, Sem.run_bind, p0, qb, Result.andThen_ok]
  cases g == h <;> cases he : eq4 a0 a1 a2 a3 b0 b1 b2 b3 <;> simp [Sem.run_pure, Sem.run_bind, p1, qn, he]
set_option maxHeartbeats 1000000 in
theorem neq_outline (k : Int) (g : Bool) (a0 a1 a2 a3 b : Int) (s : ByteArray) (m n : Int) (k' : Int) (h : Bool) (b0 b1 b2 b3 b' : Int) (s' : ByteArray) (m' n' : Int) (w : World) :
    (binOp .neq 70 (.agg #[.int .i64 k, .bool g, .int .u64 a0, .int .u64 a1, .int .u64 a2, .int .u64 a3, .int .u64 b, .string s, .int .i64 m, .int .i64 n]) (.agg #[.int .i64 k', .bool h, .int .u64 b0, .int .u64 b1, .int .u64 b2, .int .u64 b3, .int .u64 b', .string s', .int .i64 m', .int .i64 n'])).run Tryz.prog w = .ok (.bool (!eqO k g a0 a1 a2 a3 b s m n k' h b0 b1 b2 b3 b' s' m' n')) w ∧
    (binOp .eql 70 (.agg #[.int .i64 k, .bool g, .int .u64 a0, .int .u64 a1, .int .u64 a2, .int .u64 a3, .int .u64 b, .string s, .int .i64 m, .int .i64 n]) (.agg #[.int .i64 k', .bool h, .int .u64 b0, .int .u64 b1, .int .u64 b2, .int .u64 b3, .int .u64 b', .string s', .int .i64 m', .int .i64 n'])).run Tryz.prog w = .ok (.bool (eqO k g a0 a1 a2 a3 b s m n k' h b0 b1 b2 b3 b' s' m' n')) w := by
  have hf : Tryz.prog.underlying 70 = some (.struct (Tryz.prog.fieldsOf 70)) := by kernel_rfl
  have hs : Tryz.prog.stoodInHeld 70 = false := by kernel_rfl
  have ha : ∀ W, (isAgg 3).run Tryz.prog W = .ok false W := fun _ => by kernel_rfl
  have hb : ∀ W, (isAgg 24).run Tryz.prog W = .ok false W := fun _ => by kernel_rfl
  have hc : ∀ W, (isAgg 9).run Tryz.prog W = .ok false W := fun _ => by kernel_rfl
  have hd : ∀ W, (isAgg 28).run Tryz.prog W = .ok true W := fun _ => by kernel_rfl
  have hz : ∀ W, (Go.sizeOf 28).run Tryz.prog W = .ok 5 W := fun _ => by kernel_rfl
  have p0 : ∀ (v0 v1 v2 v3 v4 v5 v6 v7 v8 v9 : Value) (W : World), (part 3 #[v0, v1, v2, v3, v4, v5, v6, v7, v8, v9] 0).run Tryz.prog W = .ok v0 W := fun v0 v1 v2 v3 v4 v5 v6 v7 v8 v9 W => by unfold part; simp [go_sem, ha]
  have p1 : ∀ (v0 v1 v2 v3 v4 v5 v6 v7 v8 v9 : Value) (W : World), (part 28 #[v0, v1, v2, v3, v4, v5, v6, v7, v8, v9] 1).run Tryz.prog W = .ok (.agg #[v1, v2, v3, v4, v5]) W := fun v0 v1 v2 v3 v4 v5 v6 v7 v8 v9 W => by unfold part; simp [go_sem, hd, hz]
  have p6 : ∀ (v0 v1 v2 v3 v4 v5 v6 v7 v8 v9 : Value) (W : World), (part 24 #[v0, v1, v2, v3, v4, v5, v6, v7, v8, v9] 6).run Tryz.prog W = .ok v6 W := fun v0 v1 v2 v3 v4 v5 v6 v7 v8 v9 W => by unfold part; simp [go_sem, hb]
  have p7 : ∀ (v0 v1 v2 v3 v4 v5 v6 v7 v8 v9 : Value) (W : World), (part 9 #[v0, v1, v2, v3, v4, v5, v6, v7, v8, v9] 7).run Tryz.prog W = .ok v7 W := fun v0 v1 v2 v3 v4 v5 v6 v7 v8 v9 W => by unfold part; simp [go_sem, hc]
  have p8 : ∀ (v0 v1 v2 v3 v4 v5 v6 v7 v8 v9 : Value) (W : World), (part 3 #[v0, v1, v2, v3, v4, v5, v6, v7, v8, v9] 8).run Tryz.prog W = .ok v8 W := fun v0 v1 v2 v3 v4 v5 v6 v7 v8 v9 W => by unfold part; simp [go_sem, ha]
  have p9 : ∀ (v0 v1 v2 v3 v4 v5 v6 v7 v8 v9 : Value) (W : World), (part 3 #[v0, v1, v2, v3, v4, v5, v6, v7, v8, v9] 9).run Tryz.prog W = .ok v9 W := fun v0 v1 v2 v3 v4 v5 v6 v7 v8 v9 W => by unfold part; simp [go_sem, ha]
  have hfl : (Tryz.prog.fieldsOf 70).toList = [{ name := "kind", type := 3, offset := 0, embedded := false, tag := "", pkgPath := "entrepot/value", byteOffset := 0 }, { name := "num", type := 28, offset := 1, embedded := false, tag := "", pkgPath := "entrepot/value", byteOffset := 8 }, { name := "bits", type := 24, offset := 6, embedded := false, tag := "", pkgPath := "entrepot/value", byteOffset := 48 }, { name := "text", type := 9, offset := 7, embedded := false, tag := "", pkgPath := "entrepot/value", byteOffset := 56 }, { name := "keys", type := 3, offset := 8, embedded := false, tag := "", pkgPath := "entrepot/value", byteOffset := 72 }, { name := "items", type := 3, offset := 9, embedded := false, tag := "", pkgPath := "entrepot/value", byteOffset := 80 }] := by kernel_rfl
  have qi : ∀ (x y : Int) (W : World), (Op.equalIn 9999 3 (.int .i64 x) (.int .i64 y)).run Tryz.prog W = .ok (x == y) W := fun x y W => run_equalIn_int W 9998 _ _ _ _ _ (show Tryz.prog.underlying 3 = some (.int .i64) by kernel_rfl)
  have qu : ∀ (x y : Int) (W : World), (Op.equalIn 9999 24 (.int .u64 x) (.int .u64 y)).run Tryz.prog W = .ok (x == y) W := fun x y W => run_equalIn_int W 9998 _ _ _ _ _ (show Tryz.prog.underlying 24 = some (.int .u64) by kernel_rfl)
  have qs : ∀ (x y : ByteArray) (W : World), (Op.equalIn 9999 9 (.string x) (.string y)).run Tryz.prog W = .ok (x.toList == y.toList) W := fun x y W => run_equalIn_string W 9998 _ _ _ (by kernel_rfl)
  have qn : ∀ W, (Op.equalIn 9999 28 (.agg #[.bool g, .int .u64 a0, .int .u64 a1, .int .u64 a2, .int .u64 a3]) (.agg #[.bool h, .int .u64 b0, .int .u64 b1, .int .u64 b2, .int .u64 b3])).run Tryz.prog W = .ok (eq5 g a0 a1 a2 a3 h b0 b1 b2 b3) W := fun W => equalIn_int5_at 9996 _ _ _ _ _ _ _ _ _ _ W
  have n0 : ("kind" : String) ≠ "_" := by decide
  have n1 : ("num" : String) ≠ "_" := by decide
  have n2 : ("bits" : String) ≠ "_" := by decide
  have n3 : ("text" : String) ≠ "_" := by decide
  have n4 : ("keys" : String) ≠ "_" := by decide
  have n5 : ("items" : String) ≠ "_" := by decide
  have key : (Op.equalIn 10000 70 (.agg #[.int .i64 k, .bool g, .int .u64 a0, .int .u64 a1, .int .u64 a2, .int .u64 a3, .int .u64 b, .string s, .int .i64 m, .int .i64 n]) (.agg #[.int .i64 k', .bool h, .int .u64 b0, .int .u64 b1, .int .u64 b2, .int .u64 b3, .int .u64 b', .string s', .int .i64 m', .int .i64 n'])).run Tryz.prog w = .ok (eqO k g a0 a1 a2 a3 b s m n k' h b0 b1 b2 b3 b' s' m' n') w := by
    rw [show (10000 : Nat) = 9999 + 1 from rfl, run_equalIn_struct _ _ _ _ _ hf hs, hfl]
    unfold eqO
    cases h0 : (k == k')
    · simp [Op.eqFields, Sem.run_pure, Sem.run_bind, n0, p0, qi, h0]
    cases h1 : (eq5 g a0 a1 a2 a3 h b0 b1 b2 b3)
    · simp [Op.eqFields, Sem.run_pure, Sem.run_bind, n0, p0, qi, n1, p1, qn, h0, h1]
    cases h2 : (b == b')
    · simp [Op.eqFields, Sem.run_pure, Sem.run_bind, n0, p0, qi, n1, p1, qn, n2, p6, qu, h0, h1, h2]
    cases h3 : (s.toList == s'.toList)
    · simp [Op.eqFields, Sem.run_pure, Sem.run_bind, n0, p0, qi, n1, p1, qn, n2, p6, qu, n3, p7, qs, h0, h1, h2, h3]
    cases h4 : (m == m')
    · simp [Op.eqFields, Sem.run_pure, Sem.run_bind, n0, p0, qi, n1, p1, qn, n2, p6, qu, n3, p7, qs, n4, p8, h0, h1, h2, h3, h4]
    cases h5 : (n == n')
    · simp [Op.eqFields, Sem.run_pure, Sem.run_bind, n0, p0, qi, n1, p1, qn, n2, p6, qu, n3, p7, qs, n4, p8, n5, p9, h0, h1, h2, h3, h4, h5]
    simp [Op.eqFields, Sem.run_pure, Sem.run_bind, n0, p0, qi, n1, p1, qn, n2, p6, qu, n3, p7, qs, n4, p8, n5, p9, h0, h1, h2, h3, h4, h5]
  constructor
  · rw [run_neq_struct, key]; rfl
  · rw [run_eql_struct, key]; rfl
theorem neqO (k : Int) (g : Bool) (a0 a1 a2 a3 b : Int) (s : ByteArray) (m n : Int) (k' : Int) (h : Bool) (b0 b1 b2 b3 b' : Int) (s' : ByteArray) (m' n' : Int) (w : World) :
    (binOp .neq 70 (.agg #[.int .i64 k, .bool g, .int .u64 a0, .int .u64 a1, .int .u64 a2, .int .u64 a3, .int .u64 b, .string s, .int .i64 m, .int .i64 n]) (.agg #[.int .i64 k', .bool h, .int .u64 b0, .int .u64 b1, .int .u64 b2, .int .u64 b3, .int .u64 b', .string s', .int .i64 m', .int .i64 n'])).run Tryz.prog w = .ok (.bool (!eqO k g a0 a1 a2 a3 b s m n k' h b0 b1 b2 b3 b' s' m' n')) w := (neq_outline _ _ _ _ _ _ _ _ _ _ _ _ _ _ _ _ _ _ _ _ w).1
theorem eqlO (k : Int) (g : Bool) (a0 a1 a2 a3 b : Int) (s : ByteArray) (m n : Int) (k' : Int) (h : Bool) (b0 b1 b2 b3 b' : Int) (s' : ByteArray) (m' n' : Int) (w : World) :
    (binOp .eql 70 (.agg #[.int .i64 k, .bool g, .int .u64 a0, .int .u64 a1, .int .u64 a2, .int .u64 a3, .int .u64 b, .string s, .int .i64 m, .int .i64 n]) (.agg #[.int .i64 k', .bool h, .int .u64 b0, .int .u64 b1, .int .u64 b2, .int .u64 b3, .int .u64 b', .string s', .int .i64 m', .int .i64 n'])).run Tryz.prog w = .ok (.bool (eqO k g a0 a1 a2 a3 b s m n k' h b0 b1 b2 b3 b' s' m' n')) w := (neq_outline _ _ _ _ _ _ _ _ _ _ _ _ _ _ _ _ _ _ _ _ w).2
end Go.Proofs.YtebfggiodhaahaaGreatDoor
end
section
namespace Go.Proofs.YtebfggiodhaahaaGreatDoor
open Go.RowKit Go.Shelf
open Go.Sort (grow)
attribute [local go_sem ↓] neqO

set_option maxHeartbeats 1000000 in
theorem wrong_diff (kd : Int) (g : Bool) (x0 x1 x2 x3 b : Int) (s : ByteArray) (la : Option Addr) (n lc : Nat) (ka : Option Addr) (m kc : Nat) (h : Bool) (y0 y1 y2 y3 b' : Int) (s' : ByteArray) (la' : Option Addr) (n' lc' : Nat) (ka' : Option Addr) (m' kc' : Nat) (w : World)
    (m1 : ∀ W, Calls Tryz.prog 49 #[V10 kd g x0 x1 x2 x3 b s la n lc ka m kc] W fun e w' => e = .returned (V10 kd h y0 y1 y2 y3 b' s' la' n' lc' ka' m' kc') ∧ Below W.heap.size W w')
    (hD : eqO kd g x0 x1 x2 x3 b s (m : Int) (n : Int) kd h y0 y1 y2 y3 b' s' (m' : Int) (n' : Int) = false)
    :
    Calls Tryz.prog 23 #[V10 kd g x0 x1 x2 x3 b s la n lc ka m kc] w fun e w' => e = .returned (.bool true) ∧ Below w.heap.size w w' := by
  have M1 := Lib.hid m1; clear m1
  go_enter Tryz.func23, Tryz.ntmps23
  go_upto_region 1 with (fail)
  go_name_world w1 hw1
  have BW1 : Below w.heap.size w w1 := by rw [← hw1]; repeat (first | (with_reducible exact Below.refl _ _) | (with_reducible refine bal ?_ _) | (with_reducible refine Below.drew ?_) | (with_reducible refine bdn ?_ _))
  have X1 : Row10 w1 w.heap.size (.int .i64 kd) (.bool g) (.int .u64 x0) (.int .u64 x1) (.int .u64 x2) (.int .u64 x3) (.int .u64 b) (.string s) (.slice la n lc) (.slice ka m kc) := by rw [← hw1]; exact Row10.new _ _ _ _ _ _ _ _ _ _ _
  clear hw1
  obtain ⟨q0, q1, q2, q3, q4, q5, q6, q7, q8, q9⟩ := X1.parts
  have r0 := cell_regrown q0
  have r1 := cell_regrown q1
  have r2 := cell_regrown q2
  have r3 := cell_regrown q3
  have r4 := cell_regrown q4
  have r5 := cell_regrown q5
  have r6 := cell_regrown q6
  have r7 := cell_regrown q7
  have r8 := cell_regrown q8
  have r9 := cell_regrown q9
  clear q0 q1 q2 q3 q4 q5 q6 q7 q8 q9
  have cq0 := fun (d : Nat) (os : Array Obj) => Calls.regrown_of (w := w1) (d := d) (os := os) (outline_any kd g x0 x1 x2 x3 b s la n lc ka m kc _)
  have cq1 := fun (d : Nat) (os : Array Obj) => Calls.regrown_of (w := w1) (d := d) (os := os) (M1.out _)
  have cq2 := fun (d : Nat) (os : Array Obj) => Calls.regrown_of (w := w1) (d := d) (os := os) (outline_any kd h y0 y1 y2 y3 b' s' la' n' lc' ka' m' kc' _)
  refine wp_region_quiet_below (by kernel_rfl) (by kernel_rfl) ?_
  repeat (first | go_big_quiet_step ((first | with_reducible exact cq0 _ _ | with_reducible exact cq1 _ _ | with_reducible exact cq2 _ _)) | quiet_step (first | with_reducible exact cq0 _ _ | with_reducible exact cq1 _ _ | with_reducible exact cq2 _ _))
  refine wpQuiet_nil ?_
  intro _ hw'
  obtain ⟨⟨dq, osq⟩, hw''⟩ := hw'
  subst hw''
  clear r0 r1 r2 r3 r4 r5 r6 r7 r8 r9 cq0 cq1 cq2
  have hb := below_regrown w1 dq osq
  generalize grow (redrawn w1 dq) osq = w2 at *
  have BW2 : Below w.heap.size w w2 := btr BW1 hb
  have X2 : Row10 w2 w.heap.size (.int .i64 kd) (.bool g) (.int .u64 x0) (.int .u64 x1) (.int .u64 x2) (.int .u64 x3) (.int .u64 b) (.string s) (.slice la n lc) (.slice ka m kc) := Row10.keep hb X1
  clear X1 BW1 hb
  go_wp2
  go_ret
  exact ⟨rfl, BW2⟩
set_option maxHeartbeats 1000000 in
theorem wrong_k1 (g : Bool) (x0 x1 x2 x3 b : Int) (s : ByteArray) (la : Option Addr) (n lc : Nat) (ka : Option Addr) (m kc : Nat) (h : Bool) (y0 y1 y2 y3 b' : Int) (s' : ByteArray) (la' : Option Addr) (n' lc' : Nat) (ka' : Option Addr) (m' kc' : Nat) (w : World)
    (m1 : ∀ W, Calls Tryz.prog 49 #[V10 1 g x0 x1 x2 x3 b s la n lc ka m kc] W fun e w' => e = .returned (V10 1 h y0 y1 y2 y3 b' s' la' n' lc' ka' m' kc') ∧ Below W.heap.size W w')
    (hD : eqO 1 g x0 x1 x2 x3 b s (m : Int) (n : Int) 1 h y0 y1 y2 y3 b' s' (m' : Int) (n' : Int) = true)
    :
    Calls Tryz.prog 23 #[V10 1 g x0 x1 x2 x3 b s la n lc ka m kc] w fun e w' => e = .returned (.bool false) ∧ Below w.heap.size w w' := by
  have M1 := Lib.hid m1; clear m1
  go_enter Tryz.func23, Tryz.ntmps23
  go_upto_region 1 with (fail)
  go_name_world w1 hw1
  have BW1 : Below w.heap.size w w1 := by rw [← hw1]; repeat (first | (with_reducible exact Below.refl _ _) | (with_reducible refine bal ?_ _) | (with_reducible refine Below.drew ?_) | (with_reducible refine bdn ?_ _))
  have X1 : Row10 w1 w.heap.size (.int .i64 1) (.bool g) (.int .u64 x0) (.int .u64 x1) (.int .u64 x2) (.int .u64 x3) (.int .u64 b) (.string s) (.slice la n lc) (.slice ka m kc) := by rw [← hw1]; exact Row10.new _ _ _ _ _ _ _ _ _ _ _
  clear hw1
  obtain ⟨q0, q1, q2, q3, q4, q5, q6, q7, q8, q9⟩ := X1.parts
  have r0 := cell_regrown q0
  have r1 := cell_regrown q1
  have r2 := cell_regrown q2
  have r3 := cell_regrown q3
  have r4 := cell_regrown q4
  have r5 := cell_regrown q5
  have r6 := cell_regrown q6
  have r7 := cell_regrown q7
  have r8 := cell_regrown q8
  have r9 := cell_regrown q9
  clear q0 q1 q2 q3 q4 q5 q6 q7 q8 q9
  have cq0 := fun (d : Nat) (os : Array Obj) => Calls.regrown_of (w := w1) (d := d) (os := os) (outline_any 1 g x0 x1 x2 x3 b s la n lc ka m kc _)
  have cq1 := fun (d : Nat) (os : Array Obj) => Calls.regrown_of (w := w1) (d := d) (os := os) (M1.out _)
  have cq2 := fun (d : Nat) (os : Array Obj) => Calls.regrown_of (w := w1) (d := d) (os := os) (outline_any 1 h y0 y1 y2 y3 b' s' la' n' lc' ka' m' kc' _)
  refine wp_region_quiet_below (by kernel_rfl) (by kernel_rfl) ?_
  repeat (first | go_big_quiet_step ((first | with_reducible exact cq0 _ _ | with_reducible exact cq1 _ _ | with_reducible exact cq2 _ _)) | quiet_step (first | with_reducible exact cq0 _ _ | with_reducible exact cq1 _ _ | with_reducible exact cq2 _ _))
  refine wpQuiet_nil ?_
  intro _ hw'
  obtain ⟨⟨dq, osq⟩, hw''⟩ := hw'
  subst hw''
  clear r0 r1 r2 r3 r4 r5 r6 r7 r8 r9 cq0 cq1 cq2
  have hb := below_regrown w1 dq osq
  generalize grow (redrawn w1 dq) osq = w2 at *
  have BW2 : Below w.heap.size w w2 := btr BW1 hb
  have X2 : Row10 w2 w.heap.size (.int .i64 1) (.bool g) (.int .u64 x0) (.int .u64 x1) (.int .u64 x2) (.int .u64 x3) (.int .u64 b) (.string s) (.slice la n lc) (.slice ka m kc) := Row10.keep hb X1
  clear X1 BW1 hb
  obtain ⟨q0, q1, q2, q3, q4, q5, q6, q7, q8, q9⟩ := X2.parts
  go_wp2
  go_ret
  exact ⟨rfl, BW2⟩
set_option maxHeartbeats 1000000 in
theorem wrong_k6 (g : Bool) (x0 x1 x2 x3 b : Int) (s : ByteArray) (la : Option Addr) (n lc : Nat) (ka : Option Addr) (m kc : Nat) (h : Bool) (y0 y1 y2 y3 b' : Int) (s' : ByteArray) (la' : Option Addr) (n' lc' : Nat) (ka' : Option Addr) (m' kc' : Nat) (w : World)
    (m1 : ∀ W, Calls Tryz.prog 49 #[V10 6 g x0 x1 x2 x3 b s la n lc ka m kc] W fun e w' => e = .returned (V10 6 h y0 y1 y2 y3 b' s' la' n' lc' ka' m' kc') ∧ Below W.heap.size W w')
    (hD : eqO 6 g x0 x1 x2 x3 b s (m : Int) (n : Int) 6 h y0 y1 y2 y3 b' s' (m' : Int) (n' : Int) = true)
    :
    Calls Tryz.prog 23 #[V10 6 g x0 x1 x2 x3 b s la n lc ka m kc] w fun e w' => e = .returned (.bool false) ∧ Below w.heap.size w w' := by
  have M1 := Lib.hid m1; clear m1
  go_enter Tryz.func23, Tryz.ntmps23
  go_upto_region 1 with (fail)
  go_name_world w1 hw1
  have BW1 : Below w.heap.size w w1 := by rw [← hw1]; repeat (first | (with_reducible exact Below.refl _ _) | (with_reducible refine bal ?_ _) | (with_reducible refine Below.drew ?_) | (with_reducible refine bdn ?_ _))
  have X1 : Row10 w1 w.heap.size (.int .i64 6) (.bool g) (.int .u64 x0) (.int .u64 x1) (.int .u64 x2) (.int .u64 x3) (.int .u64 b) (.string s) (.slice la n lc) (.slice ka m kc) := by rw [← hw1]; exact Row10.new _ _ _ _ _ _ _ _ _ _ _
  clear hw1
  obtain ⟨q0, q1, q2, q3, q4, q5, q6, q7, q8, q9⟩ := X1.parts
  have r0 := cell_regrown q0
  have r1 := cell_regrown q1
  have r2 := cell_regrown q2
  have r3 := cell_regrown q3
  have r4 := cell_regrown q4
  have r5 := cell_regrown q5
  have r6 := cell_regrown q6
  have r7 := cell_regrown q7
  have r8 := cell_regrown q8
  have r9 := cell_regrown q9
  clear q0 q1 q2 q3 q4 q5 q6 q7 q8 q9
  have cq0 := fun (d : Nat) (os : Array Obj) => Calls.regrown_of (w := w1) (d := d) (os := os) (outline_any 6 g x0 x1 x2 x3 b s la n lc ka m kc _)
  have cq1 := fun (d : Nat) (os : Array Obj) => Calls.regrown_of (w := w1) (d := d) (os := os) (M1.out _)
  have cq2 := fun (d : Nat) (os : Array Obj) => Calls.regrown_of (w := w1) (d := d) (os := os) (outline_any 6 h y0 y1 y2 y3 b' s' la' n' lc' ka' m' kc' _)
  refine wp_region_quiet_below (by kernel_rfl) (by kernel_rfl) ?_
  repeat (first | go_big_quiet_step ((first | with_reducible exact cq0 _ _ | with_reducible exact cq1 _ _ | with_reducible exact cq2 _ _)) | quiet_step (first | with_reducible exact cq0 _ _ | with_reducible exact cq1 _ _ | with_reducible exact cq2 _ _))
  refine wpQuiet_nil ?_
  intro _ hw'
  obtain ⟨⟨dq, osq⟩, hw''⟩ := hw'
  subst hw''
  clear r0 r1 r2 r3 r4 r5 r6 r7 r8 r9 cq0 cq1 cq2
  have hb := below_regrown w1 dq osq
  generalize grow (redrawn w1 dq) osq = w2 at *
  have BW2 : Below w.heap.size w w2 := btr BW1 hb
  have X2 : Row10 w2 w.heap.size (.int .i64 6) (.bool g) (.int .u64 x0) (.int .u64 x1) (.int .u64 x2) (.int .u64 x3) (.int .u64 b) (.string s) (.slice la n lc) (.slice ka m kc) := Row10.keep hb X1
  clear X1 BW1 hb
  obtain ⟨q0, q1, q2, q3, q4, q5, q6, q7, q8, q9⟩ := X2.parts
  go_wp2
  go_ret
  exact ⟨rfl, BW2⟩
set_option maxHeartbeats 1000000 in
theorem wrong_k7 (g : Bool) (x0 x1 x2 x3 b : Int) (s : ByteArray) (la : Option Addr) (n lc : Nat) (ka : Option Addr) (m kc : Nat) (h : Bool) (y0 y1 y2 y3 b' : Int) (s' : ByteArray) (la' : Option Addr) (n' lc' : Nat) (ka' : Option Addr) (m' kc' : Nat) (w : World)
    (m1 : ∀ W, Calls Tryz.prog 49 #[V10 7 g x0 x1 x2 x3 b s la n lc ka m kc] W fun e w' => e = .returned (V10 7 h y0 y1 y2 y3 b' s' la' n' lc' ka' m' kc') ∧ Below W.heap.size W w')
    (hD : eqO 7 g x0 x1 x2 x3 b s (m : Int) (n : Int) 7 h y0 y1 y2 y3 b' s' (m' : Int) (n' : Int) = true)
    :
    Calls Tryz.prog 23 #[V10 7 g x0 x1 x2 x3 b s la n lc ka m kc] w fun e w' => e = .returned (.bool false) ∧ Below w.heap.size w w' := by
  have M1 := Lib.hid m1; clear m1
  go_enter Tryz.func23, Tryz.ntmps23
  go_upto_region 1 with (fail)
  go_name_world w1 hw1
  have BW1 : Below w.heap.size w w1 := by rw [← hw1]; repeat (first | (with_reducible exact Below.refl _ _) | (with_reducible refine bal ?_ _) | (with_reducible refine Below.drew ?_) | (with_reducible refine bdn ?_ _))
  have X1 : Row10 w1 w.heap.size (.int .i64 7) (.bool g) (.int .u64 x0) (.int .u64 x1) (.int .u64 x2) (.int .u64 x3) (.int .u64 b) (.string s) (.slice la n lc) (.slice ka m kc) := by rw [← hw1]; exact Row10.new _ _ _ _ _ _ _ _ _ _ _
  clear hw1
  obtain ⟨q0, q1, q2, q3, q4, q5, q6, q7, q8, q9⟩ := X1.parts
  have r0 := cell_regrown q0
  have r1 := cell_regrown q1
  have r2 := cell_regrown q2
  have r3 := cell_regrown q3
  have r4 := cell_regrown q4
  have r5 := cell_regrown q5
  have r6 := cell_regrown q6
  have r7 := cell_regrown q7
  have r8 := cell_regrown q8
  have r9 := cell_regrown q9
  clear q0 q1 q2 q3 q4 q5 q6 q7 q8 q9
  have cq0 := fun (d : Nat) (os : Array Obj) => Calls.regrown_of (w := w1) (d := d) (os := os) (outline_any 7 g x0 x1 x2 x3 b s la n lc ka m kc _)
  have cq1 := fun (d : Nat) (os : Array Obj) => Calls.regrown_of (w := w1) (d := d) (os := os) (M1.out _)
  have cq2 := fun (d : Nat) (os : Array Obj) => Calls.regrown_of (w := w1) (d := d) (os := os) (outline_any 7 h y0 y1 y2 y3 b' s' la' n' lc' ka' m' kc' _)
  refine wp_region_quiet_below (by kernel_rfl) (by kernel_rfl) ?_
  repeat (first | go_big_quiet_step ((first | with_reducible exact cq0 _ _ | with_reducible exact cq1 _ _ | with_reducible exact cq2 _ _)) | quiet_step (first | with_reducible exact cq0 _ _ | with_reducible exact cq1 _ _ | with_reducible exact cq2 _ _))
  refine wpQuiet_nil ?_
  intro _ hw'
  obtain ⟨⟨dq, osq⟩, hw''⟩ := hw'
  subst hw''
  clear r0 r1 r2 r3 r4 r5 r6 r7 r8 r9 cq0 cq1 cq2
  have hb := below_regrown w1 dq osq
  generalize grow (redrawn w1 dq) osq = w2 at *
  have BW2 : Below w.heap.size w w2 := btr BW1 hb
  have X2 : Row10 w2 w.heap.size (.int .i64 7) (.bool g) (.int .u64 x0) (.int .u64 x1) (.int .u64 x2) (.int .u64 x3) (.int .u64 b) (.string s) (.slice la n lc) (.slice ka m kc) := Row10.keep hb X1
  clear X1 BW1 hb
  obtain ⟨q0, q1, q2, q3, q4, q5, q6, q7, q8, q9⟩ := X2.parts
  go_wp2
  go_ret
  exact ⟨rfl, BW2⟩
set_option maxHeartbeats 1000000 in
theorem wrong_k2 (g : Bool) (x0 x1 x2 x3 b : Int) (s : ByteArray) (la : Option Addr) (n lc : Nat) (ka : Option Addr) (m kc : Nat) (h : Bool) (y0 y1 y2 y3 b' : Int) (s' : ByteArray) (la' : Option Addr) (n' lc' : Nat) (ka' : Option Addr) (m' kc' : Nat) (w : World)
    (m1 : ∀ W, Calls Tryz.prog 49 #[V10 2 g x0 x1 x2 x3 b s la n lc ka m kc] W fun e w' => e = .returned (V10 2 h y0 y1 y2 y3 b' s' la' n' lc' ka' m' kc') ∧ Below W.heap.size W w')
    (hD : eqO 2 g x0 x1 x2 x3 b s (m : Int) (n : Int) 2 h y0 y1 y2 y3 b' s' (m' : Int) (n' : Int) = true)
    :
    Calls Tryz.prog 23 #[V10 2 g x0 x1 x2 x3 b s la n lc ka m kc] w fun e w' => e = .returned (.bool (decide (1 < b))) ∧ Below w.heap.size w w' := by
  have M1 := Lib.hid m1; clear m1
  go_enter Tryz.func23, Tryz.ntmps23
  go_upto_region 1 with (fail)
  go_name_world w1 hw1
  have BW1 : Below w.heap.size w w1 := by rw [← hw1]; repeat (first | (with_reducible exact Below.refl _ _) | (with_reducible refine bal ?_ _) | (with_reducible refine Below.drew ?_) | (with_reducible refine bdn ?_ _))
  have X1 : Row10 w1 w.heap.size (.int .i64 2) (.bool g) (.int .u64 x0) (.int .u64 x1) (.int .u64 x2) (.int .u64 x3) (.int .u64 b) (.string s) (.slice la n lc) (.slice ka m kc) := by rw [← hw1]; exact Row10.new _ _ _ _ _ _ _ _ _ _ _
  clear hw1
  obtain ⟨q0, q1, q2, q3, q4, q5, q6, q7, q8, q9⟩ := X1.parts
  have r0 := cell_regrown q0
  have r1 := cell_regrown q1
  have r2 := cell_regrown q2
  have r3 := cell_regrown q3
  have r4 := cell_regrown q4
  have r5 := cell_regrown q5
  have r6 := cell_regrown q6
  have r7 := cell_regrown q7
  have r8 := cell_regrown q8
  have r9 := cell_regrown q9
  clear q0 q1 q2 q3 q4 q5 q6 q7 q8 q9
  have cq0 := fun (d : Nat) (os : Array Obj) => Calls.regrown_of (w := w1) (d := d) (os := os) (outline_any 2 g x0 x1 x2 x3 b s la n lc ka m kc _)
  have cq1 := fun (d : Nat) (os : Array Obj) => Calls.regrown_of (w := w1) (d := d) (os := os) (M1.out _)
  have cq2 := fun (d : Nat) (os : Array Obj) => Calls.regrown_of (w := w1) (d := d) (os := os) (outline_any 2 h y0 y1 y2 y3 b' s' la' n' lc' ka' m' kc' _)
  refine wp_region_quiet_below (by kernel_rfl) (by kernel_rfl) ?_
  repeat (first | go_big_quiet_step ((first | with_reducible exact cq0 _ _ | with_reducible exact cq1 _ _ | with_reducible exact cq2 _ _)) | quiet_step (first | with_reducible exact cq0 _ _ | with_reducible exact cq1 _ _ | with_reducible exact cq2 _ _))
  refine wpQuiet_nil ?_
  intro _ hw'
  obtain ⟨⟨dq, osq⟩, hw''⟩ := hw'
  subst hw''
  clear r0 r1 r2 r3 r4 r5 r6 r7 r8 r9 cq0 cq1 cq2
  have hb := below_regrown w1 dq osq
  generalize grow (redrawn w1 dq) osq = w2 at *
  have BW2 : Below w.heap.size w w2 := btr BW1 hb
  have X2 : Row10 w2 w.heap.size (.int .i64 2) (.bool g) (.int .u64 x0) (.int .u64 x1) (.int .u64 x2) (.int .u64 x3) (.int .u64 b) (.string s) (.slice la n lc) (.slice ka m kc) := Row10.keep hb X1
  clear X1 BW1 hb
  obtain ⟨q0, q1, q2, q3, q4, q5, q6, q7, q8, q9⟩ := X2.parts
  go_wp2
  go_ret
  exact ⟨rfl, BW2⟩
set_option maxHeartbeats 1000000 in
theorem wrong_k3 (g : Bool) (x0 x1 x2 x3 b : Int) (s : ByteArray) (la : Option Addr) (n lc : Nat) (ka : Option Addr) (m kc : Nat) (h : Bool) (y0 y1 y2 y3 b' : Int) (s' : ByteArray) (la' : Option Addr) (n' lc' : Nat) (ka' : Option Addr) (m' kc' : Nat) (w : World)
    (m1 : ∀ W, Calls Tryz.prog 49 #[V10 3 g x0 x1 x2 x3 b s la n lc ka m kc] W fun e w' => e = .returned (V10 3 h y0 y1 y2 y3 b' s' la' n' lc' ka' m' kc') ∧ Below W.heap.size W w')
    (hD : eqO 3 g x0 x1 x2 x3 b s (m : Int) (n : Int) 3 h y0 y1 y2 y3 b' s' (m' : Int) (n' : Int) = true)
    (q : Bool) (hc : ∀ W, Below w.heap.size w W → Calls Tryz.prog 50 #[.agg #[.bool g, .int .u64 x0, .int .u64 x1, .int .u64 x2, .int .u64 x3]] W fun e w' => e = .returned (.bool q) ∧ Below W.heap.size W w') :
    Calls Tryz.prog 23 #[V10 3 g x0 x1 x2 x3 b s la n lc ka m kc] w fun e w' => e = .returned (.bool (!q)) ∧ Below w.heap.size w w' := by
  have HC := Lib.hid hc; clear hc
  have M1 := Lib.hid m1; clear m1
  go_enter Tryz.func23, Tryz.ntmps23
  go_upto_region 1 with (fail)
  go_name_world w1 hw1
  have BW1 : Below w.heap.size w w1 := by rw [← hw1]; repeat (first | (with_reducible exact Below.refl _ _) | (with_reducible refine bal ?_ _) | (with_reducible refine Below.drew ?_) | (with_reducible refine bdn ?_ _))
  have X1 : Row10 w1 w.heap.size (.int .i64 3) (.bool g) (.int .u64 x0) (.int .u64 x1) (.int .u64 x2) (.int .u64 x3) (.int .u64 b) (.string s) (.slice la n lc) (.slice ka m kc) := by rw [← hw1]; exact Row10.new _ _ _ _ _ _ _ _ _ _ _
  clear hw1
  obtain ⟨q0, q1, q2, q3, q4, q5, q6, q7, q8, q9⟩ := X1.parts
  have r0 := cell_regrown q0
  have r1 := cell_regrown q1
  have r2 := cell_regrown q2
  have r3 := cell_regrown q3
  have r4 := cell_regrown q4
  have r5 := cell_regrown q5
  have r6 := cell_regrown q6
  have r7 := cell_regrown q7
  have r8 := cell_regrown q8
  have r9 := cell_regrown q9
  clear q0 q1 q2 q3 q4 q5 q6 q7 q8 q9
  have cq0 := fun (d : Nat) (os : Array Obj) => Calls.regrown_of (w := w1) (d := d) (os := os) (outline_any 3 g x0 x1 x2 x3 b s la n lc ka m kc _)
  have cq1 := fun (d : Nat) (os : Array Obj) => Calls.regrown_of (w := w1) (d := d) (os := os) (M1.out _)
  have cq2 := fun (d : Nat) (os : Array Obj) => Calls.regrown_of (w := w1) (d := d) (os := os) (outline_any 3 h y0 y1 y2 y3 b' s' la' n' lc' ka' m' kc' _)
  refine wp_region_quiet_below (by kernel_rfl) (by kernel_rfl) ?_
  repeat (first | go_big_quiet_step ((first | with_reducible exact cq0 _ _ | with_reducible exact cq1 _ _ | with_reducible exact cq2 _ _)) | quiet_step (first | with_reducible exact cq0 _ _ | with_reducible exact cq1 _ _ | with_reducible exact cq2 _ _))
  refine wpQuiet_nil ?_
  intro _ hw'
  obtain ⟨⟨dq, osq⟩, hw''⟩ := hw'
  subst hw''
  clear r0 r1 r2 r3 r4 r5 r6 r7 r8 r9 cq0 cq1 cq2
  have hb := below_regrown w1 dq osq
  generalize grow (redrawn w1 dq) osq = w2 at *
  have BW2 : Below w.heap.size w w2 := btr BW1 hb
  have X2 : Row10 w2 w.heap.size (.int .i64 3) (.bool g) (.int .u64 x0) (.int .u64 x1) (.int .u64 x2) (.int .u64 x3) (.int .u64 b) (.string s) (.slice la n lc) (.slice ka m kc) := Row10.keep hb X1
  clear X1 BW1 hb
  obtain ⟨q0, q1, q2, q3, q4, q5, q6, q7, q8, q9⟩ := X2.parts
  go_wp2_with (go_at_call 50; ((with_reducible refine (HC.out _ BW2).mono ?_); rintro e w3 ⟨rfl, hb3⟩))
  go_ret
  exact ⟨rfl, btr BW2 hb3⟩
set_option maxHeartbeats 1000000 in
theorem wrong_k4 (g : Bool) (x0 x1 x2 x3 b : Int) (s : ByteArray) (la : Option Addr) (n lc : Nat) (ka : Option Addr) (m kc : Nat) (h : Bool) (y0 y1 y2 y3 b' : Int) (s' : ByteArray) (la' : Option Addr) (n' lc' : Nat) (ka' : Option Addr) (m' kc' : Nat) (w : World)
    (m1 : ∀ W, Calls Tryz.prog 49 #[V10 4 g x0 x1 x2 x3 b s la n lc ka m kc] W fun e w' => e = .returned (V10 4 h y0 y1 y2 y3 b' s' la' n' lc' ka' m' kc') ∧ Below W.heap.size W w')
    (hD : eqO 4 g x0 x1 x2 x3 b s (m : Int) (n : Int) 4 h y0 y1 y2 y3 b' s' (m' : Int) (n' : Int) = true)
    (q : Bool) (hc : ∀ W, Below w.heap.size w W → Calls Tryz.prog 51 #[.int .u64 b] W fun e w' => e = .returned (.bool q) ∧ Below W.heap.size W w') :
    Calls Tryz.prog 23 #[V10 4 g x0 x1 x2 x3 b s la n lc ka m kc] w fun e w' => e = .returned (.bool (!q)) ∧ Below w.heap.size w w' := by
  have HC := Lib.hid hc; clear hc
  have M1 := Lib.hid m1; clear m1
  go_enter Tryz.func23, Tryz.ntmps23
  go_upto_region 1 with (fail)
  go_name_world w1 hw1
  have BW1 : Below w.heap.size w w1 := by rw [← hw1]; repeat (first | (with_reducible exact Below.refl _ _) | (with_reducible refine bal ?_ _) | (with_reducible refine Below.drew ?_) | (with_reducible refine bdn ?_ _))
  have X1 : Row10 w1 w.heap.size (.int .i64 4) (.bool g) (.int .u64 x0) (.int .u64 x1) (.int .u64 x2) (.int .u64 x3) (.int .u64 b) (.string s) (.slice la n lc) (.slice ka m kc) := by rw [← hw1]; exact Row10.new _ _ _ _ _ _ _ _ _ _ _
  clear hw1
  obtain ⟨q0, q1, q2, q3, q4, q5, q6, q7, q8, q9⟩ := X1.parts
  have r0 := cell_regrown q0
  have r1 := cell_regrown q1
  have r2 := cell_regrown q2
  have r3 := cell_regrown q3
  have r4 := cell_regrown q4
  have r5 := cell_regrown q5
  have r6 := cell_regrown q6
  have r7 := cell_regrown q7
  have r8 := cell_regrown q8
  have r9 := cell_regrown q9
  clear q0 q1 q2 q3 q4 q5 q6 q7 q8 q9
  have cq0 := fun (d : Nat) (os : Array Obj) => Calls.regrown_of (w := w1) (d := d) (os := os) (outline_any 4 g x0 x1 x2 x3 b s la n lc ka m kc _)
  have cq1 := fun (d : Nat) (os : Array Obj) => Calls.regrown_of (w := w1) (d := d) (os := os) (M1.out _)
  have cq2 := fun (d : Nat) (os : Array Obj) => Calls.regrown_of (w := w1) (d := d) (os := os) (outline_any 4 h y0 y1 y2 y3 b' s' la' n' lc' ka' m' kc' _)
  refine wp_region_quiet_below (by kernel_rfl) (by kernel_rfl) ?_
  repeat (first | go_big_quiet_step ((first | with_reducible exact cq0 _ _ | with_reducible exact cq1 _ _ | with_reducible exact cq2 _ _)) | quiet_step (first | with_reducible exact cq0 _ _ | with_reducible exact cq1 _ _ | with_reducible exact cq2 _ _))
  refine wpQuiet_nil ?_
  intro _ hw'
  obtain ⟨⟨dq, osq⟩, hw''⟩ := hw'
  subst hw''
  clear r0 r1 r2 r3 r4 r5 r6 r7 r8 r9 cq0 cq1 cq2
  have hb := below_regrown w1 dq osq
  generalize grow (redrawn w1 dq) osq = w2 at *
  have BW2 : Below w.heap.size w w2 := btr BW1 hb
  have X2 : Row10 w2 w.heap.size (.int .i64 4) (.bool g) (.int .u64 x0) (.int .u64 x1) (.int .u64 x2) (.int .u64 x3) (.int .u64 b) (.string s) (.slice la n lc) (.slice ka m kc) := Row10.keep hb X1
  clear X1 BW1 hb
  obtain ⟨q0, q1, q2, q3, q4, q5, q6, q7, q8, q9⟩ := X2.parts
  go_wp2_with (go_at_call 51; ((with_reducible refine (HC.out _ BW2).mono ?_); rintro e w3 ⟨rfl, hb3⟩))
  go_ret
  exact ⟨rfl, btr BW2 hb3⟩
set_option maxHeartbeats 1000000 in
theorem wrong_k5 (g : Bool) (x0 x1 x2 x3 b : Int) (s : ByteArray) (la : Option Addr) (n lc : Nat) (ka : Option Addr) (m kc : Nat) (h : Bool) (y0 y1 y2 y3 b' : Int) (s' : ByteArray) (la' : Option Addr) (n' lc' : Nat) (ka' : Option Addr) (m' kc' : Nat) (w : World)
    (m1 : ∀ W, Calls Tryz.prog 49 #[V10 5 g x0 x1 x2 x3 b s la n lc ka m kc] W fun e w' => e = .returned (V10 5 h y0 y1 y2 y3 b' s' la' n' lc' ka' m' kc') ∧ Below W.heap.size W w')
    (hD : eqO 5 g x0 x1 x2 x3 b s (m : Int) (n : Int) 5 h y0 y1 y2 y3 b' s' (m' : Int) (n' : Int) = true)
    (q : Bool) (hc : ∀ W, Below w.heap.size w W → Calls Tryz.prog 52 #[.string s] W fun e w' => e = .returned (.bool q) ∧ Below W.heap.size W w') :
    Calls Tryz.prog 23 #[V10 5 g x0 x1 x2 x3 b s la n lc ka m kc] w fun e w' => e = .returned (.bool (!q)) ∧ Below w.heap.size w w' := by
  have HC := Lib.hid hc; clear hc
  have M1 := Lib.hid m1; clear m1
  go_enter Tryz.func23, Tryz.ntmps23
  go_upto_region 1 with (fail)
  go_name_world w1 hw1
  have BW1 : Below w.heap.size w w1 := by rw [← hw1]; repeat (first | (with_reducible exact Below.refl _ _) | (with_reducible refine bal ?_ _) | (with_reducible refine Below.drew ?_) | (with_reducible refine bdn ?_ _))
  have X1 : Row10 w1 w.heap.size (.int .i64 5) (.bool g) (.int .u64 x0) (.int .u64 x1) (.int .u64 x2) (.int .u64 x3) (.int .u64 b) (.string s) (.slice la n lc) (.slice ka m kc) := by rw [← hw1]; exact Row10.new _ _ _ _ _ _ _ _ _ _ _
  clear hw1
  obtain ⟨q0, q1, q2, q3, q4, q5, q6, q7, q8, q9⟩ := X1.parts
  have r0 := cell_regrown q0
  have r1 := cell_regrown q1
  have r2 := cell_regrown q2
  have r3 := cell_regrown q3
  have r4 := cell_regrown q4
  have r5 := cell_regrown q5
  have r6 := cell_regrown q6
  have r7 := cell_regrown q7
  have r8 := cell_regrown q8
  have r9 := cell_regrown q9
  clear q0 q1 q2 q3 q4 q5 q6 q7 q8 q9
  have cq0 := fun (d : Nat) (os : Array Obj) => Calls.regrown_of (w := w1) (d := d) (os := os) (outline_any 5 g x0 x1 x2 x3 b s la n lc ka m kc _)
  have cq1 := fun (d : Nat) (os : Array Obj) => Calls.regrown_of (w := w1) (d := d) (os := os) (M1.out _)
  have cq2 := fun (d : Nat) (os : Array Obj) => Calls.regrown_of (w := w1) (d := d) (os := os) (outline_any 5 h y0 y1 y2 y3 b' s' la' n' lc' ka' m' kc' _)
  refine wp_region_quiet_below (by kernel_rfl) (by kernel_rfl) ?_
  repeat (first | go_big_quiet_step ((first | with_reducible exact cq0 _ _ | with_reducible exact cq1 _ _ | with_reducible exact cq2 _ _)) | quiet_step (first | with_reducible exact cq0 _ _ | with_reducible exact cq1 _ _ | with_reducible exact cq2 _ _))
  refine wpQuiet_nil ?_
  intro _ hw'
  obtain ⟨⟨dq, osq⟩, hw''⟩ := hw'
  subst hw''
  clear r0 r1 r2 r3 r4 r5 r6 r7 r8 r9 cq0 cq1 cq2
  have hb := below_regrown w1 dq osq
  generalize grow (redrawn w1 dq) osq = w2 at *
  have BW2 : Below w.heap.size w w2 := btr BW1 hb
  have X2 : Row10 w2 w.heap.size (.int .i64 5) (.bool g) (.int .u64 x0) (.int .u64 x1) (.int .u64 x2) (.int .u64 x3) (.int .u64 b) (.string s) (.slice la n lc) (.slice ka m kc) := Row10.keep hb X1
  clear X1 BW1 hb
  obtain ⟨q0, q1, q2, q3, q4, q5, q6, q7, q8, q9⟩ := X2.parts
  go_wp2_with (go_at_call 52; ((with_reducible refine (HC.out _ BW2).mono ?_); rintro e w3 ⟨rfl, hb3⟩))
  go_ret
  exact ⟨rfl, btr BW2 hb3⟩
set_option maxHeartbeats 1000000 in
theorem wrong_k8n (g : Bool) (x0 x1 x2 x3 b : Int) (s : ByteArray) (la : Option Addr) (n lc : Nat) (ka : Option Addr) (m kc : Nat) (h : Bool) (y0 y1 y2 y3 b' : Int) (s' : ByteArray) (la' : Option Addr) (n' lc' : Nat) (ka' : Option Addr) (m' kc' : Nat) (w : World)
    (m1 : ∀ W, Calls Tryz.prog 49 #[V10 8 g x0 x1 x2 x3 b s la n lc ka m kc] W fun e w' => e = .returned (V10 8 h y0 y1 y2 y3 b' s' la' n' lc' ka' m' kc') ∧ Below W.heap.size W w')
    (hD : eqO 8 g x0 x1 x2 x3 b s (m : Int) (n : Int) 8 h y0 y1 y2 y3 b' s' (m' : Int) (n' : Int) = true)
    (hmn : m ≠ n) :
    Calls Tryz.prog 23 #[V10 8 g x0 x1 x2 x3 b s la n lc ka m kc] w fun e w' => e = .returned (.bool true) ∧ Below w.heap.size w w' := by
  have hmn2 : ((m : Int) != (n : Int)) = true := by rw [bne_iff_ne]; omega
  have M1 := Lib.hid m1; clear m1
  go_enter Tryz.func23, Tryz.ntmps23
  go_upto_region 1 with (fail)
  go_name_world w1 hw1
  have BW1 : Below w.heap.size w w1 := by rw [← hw1]; repeat (first | (with_reducible exact Below.refl _ _) | (with_reducible refine bal ?_ _) | (with_reducible refine Below.drew ?_) | (with_reducible refine bdn ?_ _))
  have X1 : Row10 w1 w.heap.size (.int .i64 8) (.bool g) (.int .u64 x0) (.int .u64 x1) (.int .u64 x2) (.int .u64 x3) (.int .u64 b) (.string s) (.slice la n lc) (.slice ka m kc) := by rw [← hw1]; exact Row10.new _ _ _ _ _ _ _ _ _ _ _
  clear hw1
  obtain ⟨q0, q1, q2, q3, q4, q5, q6, q7, q8, q9⟩ := X1.parts
  have r0 := cell_regrown q0
  have r1 := cell_regrown q1
  have r2 := cell_regrown q2
  have r3 := cell_regrown q3
  have r4 := cell_regrown q4
  have r5 := cell_regrown q5
  have r6 := cell_regrown q6
  have r7 := cell_regrown q7
  have r8 := cell_regrown q8
  have r9 := cell_regrown q9
  clear q0 q1 q2 q3 q4 q5 q6 q7 q8 q9
  have cq0 := fun (d : Nat) (os : Array Obj) => Calls.regrown_of (w := w1) (d := d) (os := os) (outline_any 8 g x0 x1 x2 x3 b s la n lc ka m kc _)
  have cq1 := fun (d : Nat) (os : Array Obj) => Calls.regrown_of (w := w1) (d := d) (os := os) (M1.out _)
  have cq2 := fun (d : Nat) (os : Array Obj) => Calls.regrown_of (w := w1) (d := d) (os := os) (outline_any 8 h y0 y1 y2 y3 b' s' la' n' lc' ka' m' kc' _)
  refine wp_region_quiet_below (by kernel_rfl) (by kernel_rfl) ?_
  repeat (first | go_big_quiet_step ((first | with_reducible exact cq0 _ _ | with_reducible exact cq1 _ _ | with_reducible exact cq2 _ _)) | quiet_step (first | with_reducible exact cq0 _ _ | with_reducible exact cq1 _ _ | with_reducible exact cq2 _ _))
  refine wpQuiet_nil ?_
  intro _ hw'
  obtain ⟨⟨dq, osq⟩, hw''⟩ := hw'
  subst hw''
  clear r0 r1 r2 r3 r4 r5 r6 r7 r8 r9 cq0 cq1 cq2
  have hb := below_regrown w1 dq osq
  generalize grow (redrawn w1 dq) osq = w2 at *
  have BW2 : Below w.heap.size w w2 := btr BW1 hb
  have X2 : Row10 w2 w.heap.size (.int .i64 8) (.bool g) (.int .u64 x0) (.int .u64 x1) (.int .u64 x2) (.int .u64 x3) (.int .u64 b) (.string s) (.slice la n lc) (.slice ka m kc) := Row10.keep hb X1
  clear X1 BW1 hb
  obtain ⟨q0, q1, q2, q3, q4, q5, q6, q7, q8, q9⟩ := X2.parts
  go_wp2
  go_ret
  exact ⟨rfl, BW2⟩
set_option maxHeartbeats 1000000 in
theorem wrong_k8 (g : Bool) (x0 x1 x2 x3 b : Int) (s : ByteArray) (la : Option Addr) (n lc : Nat) (ka : Option Addr) (m kc : Nat) (h : Bool) (y0 y1 y2 y3 b' : Int) (s' : ByteArray) (la' : Option Addr) (n' lc' : Nat) (ka' : Option Addr) (m' kc' : Nat) (w : World)
    (m1 : ∀ W, Calls Tryz.prog 49 #[V10 8 g x0 x1 x2 x3 b s la n lc ka m kc] W fun e w' => e = .returned (V10 8 h y0 y1 y2 y3 b' s' la' n' lc' ka' m' kc') ∧ Below W.heap.size W w')
    (hD : eqO 8 g x0 x1 x2 x3 b s (m : Int) (n : Int) 8 h y0 y1 y2 y3 b' s' (m' : Int) (n' : Int) = true)
    (hmn : m = n) (q : Bool) (hc : ∀ W, Below w.heap.size w W → Calls Tryz.prog 53 #[.slice ka m kc] W fun e w' => e = .returned (.bool q) ∧ Below W.heap.size W w') :
    Calls Tryz.prog 23 #[V10 8 g x0 x1 x2 x3 b s la n lc ka m kc] w fun e w' => e = .returned (.bool (!q)) ∧ Below w.heap.size w w' := by
  have HC := Lib.hid hc; clear hc
  have HM2 : Hid (((m : Int) != (n : Int)) = false) := by show _ = _; rw [bne_eq_false_iff_eq]; omega
  clear hmn
  have M1 := Lib.hid m1; clear m1
  go_enter Tryz.func23, Tryz.ntmps23
  go_upto_region 1 with (fail)
  go_name_world w1 hw1
  have BW1 : Below w.heap.size w w1 := by rw [← hw1]; repeat (first | (with_reducible exact Below.refl _ _) | (with_reducible refine bal ?_ _) | (with_reducible refine Below.drew ?_) | (with_reducible refine bdn ?_ _))
  have X1 : Row10 w1 w.heap.size (.int .i64 8) (.bool g) (.int .u64 x0) (.int .u64 x1) (.int .u64 x2) (.int .u64 x3) (.int .u64 b) (.string s) (.slice la n lc) (.slice ka m kc) := by rw [← hw1]; exact Row10.new _ _ _ _ _ _ _ _ _ _ _
  clear hw1
  obtain ⟨q0, q1, q2, q3, q4, q5, q6, q7, q8, q9⟩ := X1.parts
  have r0 := cell_regrown q0
  have r1 := cell_regrown q1
  have r2 := cell_regrown q2
  have r3 := cell_regrown q3
  have r4 := cell_regrown q4
  have r5 := cell_regrown q5
  have r6 := cell_regrown q6
  have r7 := cell_regrown q7
  have r8 := cell_regrown q8
  have r9 := cell_regrown q9
  clear q0 q1 q2 q3 q4 q5 q6 q7 q8 q9
  have cq0 := fun (d : Nat) (os : Array Obj) => Calls.regrown_of (w := w1) (d := d) (os := os) (outline_any 8 g x0 x1 x2 x3 b s la n lc ka m kc _)
  have cq1 := fun (d : Nat) (os : Array Obj) => Calls.regrown_of (w := w1) (d := d) (os := os) (M1.out _)
  have cq2 := fun (d : Nat) (os : Array Obj) => Calls.regrown_of (w := w1) (d := d) (os := os) (outline_any 8 h y0 y1 y2 y3 b' s' la' n' lc' ka' m' kc' _)
  refine wp_region_quiet_below (by kernel_rfl) (by kernel_rfl) ?_
  repeat (first | go_big_quiet_step ((first | with_reducible exact cq0 _ _ | with_reducible exact cq1 _ _ | with_reducible exact cq2 _ _)) | quiet_step (first | with_reducible exact cq0 _ _ | with_reducible exact cq1 _ _ | with_reducible exact cq2 _ _))
  refine wpQuiet_nil ?_
  intro _ hw'
  obtain ⟨⟨dq, osq⟩, hw''⟩ := hw'
  subst hw''
  clear r0 r1 r2 r3 r4 r5 r6 r7 r8 r9 cq0 cq1 cq2
  have hb := below_regrown w1 dq osq
  generalize grow (redrawn w1 dq) osq = w2 at *
  have BW2 : Below w.heap.size w w2 := btr BW1 hb
  have X2 : Row10 w2 w.heap.size (.int .i64 8) (.bool g) (.int .u64 x0) (.int .u64 x1) (.int .u64 x2) (.int .u64 x3) (.int .u64 b) (.string s) (.slice la n lc) (.slice ka m kc) := Row10.keep hb X1
  clear X1 BW1 hb
  obtain ⟨q0, q1, q2, q3, q4, q5, q6, q7, q8, q9⟩ := X2.parts
  have hmn2 := HM2.out
  go_wp2_with (go_at_call 53; ((with_reducible refine (HC.out _ BW2).mono ?_); rintro e w3 ⟨rfl, hb3⟩))
  go_ret
  exact ⟨rfl, btr BW2 hb3⟩
set_option maxHeartbeats 1000000 in
theorem wrong_none (kd : Int) (h1 : (kd == 1) = false) (h2 : (kd == 2) = false) (h3 : (kd == 3) = false) (h4 : (kd == 4) = false) (h5 : (kd == 5) = false) (h6 : (kd == 6) = false) (h7 : (kd == 7) = false) (h8 : (kd == 8) = false) (g : Bool) (x0 x1 x2 x3 b : Int) (s : ByteArray) (la : Option Addr) (n lc : Nat) (ka : Option Addr) (m kc : Nat) (h : Bool) (y0 y1 y2 y3 b' : Int) (s' : ByteArray) (la' : Option Addr) (n' lc' : Nat) (ka' : Option Addr) (m' kc' : Nat) (w : World)
    (m1 : ∀ W, Calls Tryz.prog 49 #[V10 kd g x0 x1 x2 x3 b s la n lc ka m kc] W fun e w' => e = .returned (V10 kd h y0 y1 y2 y3 b' s' la' n' lc' ka' m' kc') ∧ Below W.heap.size W w')
    (hD : eqO kd g x0 x1 x2 x3 b s (m : Int) (n : Int) kd h y0 y1 y2 y3 b' s' (m' : Int) (n' : Int) = true)
    :
    Calls Tryz.prog 23 #[V10 kd g x0 x1 x2 x3 b s la n lc ka m kc] w fun e w' => e = .returned (.bool true) ∧ Below w.heap.size w w' := by
  have M1 := Lib.hid m1; clear m1
  go_enter Tryz.func23, Tryz.ntmps23
  go_upto_region 1 with (fail)
  go_name_world w1 hw1
  have BW1 : Below w.heap.size w w1 := by rw [← hw1]; repeat (first | (with_reducible exact Below.refl _ _) | (with_reducible refine bal ?_ _) | (with_reducible refine Below.drew ?_) | (with_reducible refine bdn ?_ _))
  have X1 : Row10 w1 w.heap.size (.int .i64 kd) (.bool g) (.int .u64 x0) (.int .u64 x1) (.int .u64 x2) (.int .u64 x3) (.int .u64 b) (.string s) (.slice la n lc) (.slice ka m kc) := by rw [← hw1]; exact Row10.new _ _ _ _ _ _ _ _ _ _ _
  clear hw1
  obtain ⟨q0, q1, q2, q3, q4, q5, q6, q7, q8, q9⟩ := X1.parts
  have r0 := cell_regrown q0
  have r1 := cell_regrown q1
  have r2 := cell_regrown q2
  have r3 := cell_regrown q3
  have r4 := cell_regrown q4
  have r5 := cell_regrown q5
  have r6 := cell_regrown q6
  have r7 := cell_regrown q7
  have r8 := cell_regrown q8
  have r9 := cell_regrown q9
  clear q0 q1 q2 q3 q4 q5 q6 q7 q8 q9
  have cq0 := fun (d : Nat) (os : Array Obj) => Calls.regrown_of (w := w1) (d := d) (os := os) (outline_any kd g x0 x1 x2 x3 b s la n lc ka m kc _)
  have cq1 := fun (d : Nat) (os : Array Obj) => Calls.regrown_of (w := w1) (d := d) (os := os) (M1.out _)
  have cq2 := fun (d : Nat) (os : Array Obj) => Calls.regrown_of (w := w1) (d := d) (os := os) (outline_any kd h y0 y1 y2 y3 b' s' la' n' lc' ka' m' kc' _)
  refine wp_region_quiet_below (by kernel_rfl) (by kernel_rfl) ?_
  repeat (first | go_big_quiet_step ((first | with_reducible exact cq0 _ _ | with_reducible exact cq1 _ _ | with_reducible exact cq2 _ _)) | quiet_step (first | with_reducible exact cq0 _ _ | with_reducible exact cq1 _ _ | with_reducible exact cq2 _ _))
  refine wpQuiet_nil ?_
  intro _ hw'
  obtain ⟨⟨dq, osq⟩, hw''⟩ := hw'
  subst hw''
  clear r0 r1 r2 r3 r4 r5 r6 r7 r8 r9 cq0 cq1 cq2
  have hb := below_regrown w1 dq osq
  generalize grow (redrawn w1 dq) osq = w2 at *
  have BW2 : Below w.heap.size w w2 := btr BW1 hb
  have X2 : Row10 w2 w.heap.size (.int .i64 kd) (.bool g) (.int .u64 x0) (.int .u64 x1) (.int .u64 x2) (.int .u64 x3) (.int .u64 b) (.string s) (.slice la n lc) (.slice ka m kc) := Row10.keep hb X1
  clear X1 BW1 hb
  obtain ⟨q0, q1, q2, q3, q4, q5, q6, q7, q8, q9⟩ := X2.parts
  go_wp2
  go_ret
  exact ⟨rfl, BW2⟩
end Go.Proofs.YtebfggiodhaahaaGreatDoor
end
