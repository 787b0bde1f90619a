/-
  DigMath RefBase RefA RefAdd RefSub RefMulMath RefOf RefMul RefSmall RefApi RefCmp RefNat RefBits RefPow RefShr RefParts, one behind the other: a claim holds at most 60 files.
-/
import Derived.RowKit
import Derived.Test.YtocffoemimghhaaGreatDoorGA
import Derived.Laws.AppendOwn
import Derived.Deep.OwnRows
import Derived.Deep.AppendLies
import Derived.Lib.QuietBelow
import Derived.BigQuiet
import Derived.Deep.QuietTactic
import Derived.Test.YtocffoemimghhaaGreatDoorGL
import Derived.BigRegion
import Derived.RegionTactic
import Derived.Test.YtocffoemimghhaaGreatDoorGF
section
namespace Go.Proofs.YtocffoemimghhaaGreatDoor

/-- The number of some digits of 32 bits, the least first. -/
def dval : List Nat → Nat
  | [] => 0
  | d :: l => d + 4294967296 * dval l
/-- The digits of a number, as many as it takes. -/
def digs (x : Nat) : List Nat := if h : x = 0 then [] else x % 4294967296 :: digs (x / 4294967296)
termination_by x
decreasing_by omega
def Sm (l : List Nat) : Prop := ∀ d ∈ l, d < 4294967296
theorem digs_zero : digs 0 = [] := by rw [digs]; simp
theorem digs_pos {x : Nat} (h : x ≠ 0) : digs x = x % 4294967296 :: digs (x / 4294967296) := by rw [digs]; simp [h]
theorem Sm.nil : Sm [] := fun _ h => by cases h
theorem Sm.cons {d : Nat} {l : List Nat} (hd : d < 4294967296) (h : Sm l) : Sm (d :: l) := fun x hx => by
  rcases List.mem_cons.1 hx with rfl | hx
  · exact hd
  · exact h x hx
theorem Sm.head {d : Nat} {l : List Nat} (h : Sm (d :: l)) : d < 4294967296 := h d (by simp)
theorem Sm.tail {d : Nat} {l : List Nat} (h : Sm (d :: l)) : Sm l := fun x hx => h x (by simp [hx])
theorem Sm.app {l m : List Nat} (h : Sm l) (k : Sm m) : Sm (l ++ m) := fun x hx => by
  rcases List.mem_append.1 hx with hx | hx
  · exact h x hx
  · exact k x hx
theorem Sm.one {d : Nat} (hd : d < 4294967296) : Sm [d] := Sm.cons hd Sm.nil
theorem Sm.get {l : List Nat} (h : Sm l) (i : Nat) : l.getD i 0 < 4294967296 := by
  rw [List.getD_eq_getElem?_getD]
  cases e : l[i]? with
  | none => simp
  | some d => exact h d (List.mem_of_getElem? e)
theorem Sm.set {l : List Nat} (h : Sm l) (i : Nat) {d : Nat} (hd : d < 4294967296) : Sm (l.set i d) := fun x hx => by
  rcases List.mem_or_eq_of_mem_set hx with hx | hx
  · exact h x hx
  · omega
theorem digs_sm (x : Nat) : Sm (digs x) := by
  induction x using Nat.strongRecOn with
  | ind x ih =>
    by_cases h : x = 0
    · subst h; rw [digs_zero]; exact Sm.nil
    · rw [digs_pos h]; exact Sm.cons (by omega) (ih _ (by omega))
theorem dval_digs (x : Nat) : dval (digs x) = x := by
  induction x using Nat.strongRecOn with
  | ind x ih =>
    by_cases h : x = 0
    · subst h; rw [digs_zero]; rfl
    · rw [digs_pos h, dval, ih _ (by omega)]; omega
theorem dval_app (l m : List Nat) : dval (l ++ m) = dval l + 2 ^ (32 * l.length) * dval m := by
  induction l with
  | nil => simp [dval]
  | cons d l ih =>
    rw [List.cons_append, dval, ih, dval, List.length_cons, show 32 * (l.length + 1) = 32 + 32 * l.length from by omega, Nat.pow_add, Nat.mul_add, ← Nat.mul_assoc, Nat.add_assoc]
theorem dval_lt {l : List Nat} (h : Sm l) : dval l < 2 ^ (32 * l.length) := by
  induction l with
  | nil => simp [dval]
  | cons d l ih =>
    have := ih h.tail
    have hd := h.head
    rw [dval, List.length_cons, show 32 * (l.length + 1) = 32 + 32 * l.length from by omega, Nat.pow_add]
    omega
theorem digs_len {x k : Nat} : (digs x).length ≤ k ↔ x < 2 ^ (32 * k) := by
  induction k generalizing x with
  | zero =>
    by_cases h : x = 0
    · subst h; simp [digs_zero]
    · rw [digs_pos h]; simp; omega
  | succ k ih =>
    by_cases h : x = 0
    · subst h; simp [digs_zero, Nat.two_pow_pos]
    · rw [digs_pos h, List.length_cons, Nat.add_le_add_iff_right, ih, show 32 * (k + 1) = 32 + 32 * k from by omega, Nat.pow_add]
      omega
theorem digs_get (x i : Nat) : (digs x).getD i 0 = x / 2 ^ (32 * i) % 4294967296 := by
  induction i generalizing x with
  | zero =>
    by_cases h : x = 0
    · subst h; simp [digs_zero]
    · rw [digs_pos h]; simp
  | succ i ih =>
    by_cases h : x = 0
    · subst h; simp [digs_zero]
    · rw [digs_pos h, List.getD_cons_succ, ih, show 32 * (i + 1) = 32 + 32 * i from by omega, Nat.pow_add, ← Nat.div_div_eq_div_mul]
theorem dval_get {l : List Nat} (h : Sm l) (i : Nat) : dval l / 2 ^ (32 * i) % 4294967296 = l.getD i 0 := by
  induction i generalizing l with
  | zero =>
    cases l with
    | nil => simp [dval]
    | cons d l =>
      have := h.head
      simp only [dval, Nat.mul_zero, Nat.pow_zero, Nat.div_one, List.getD_cons_zero]
      omega
  | succ i ih =>
    cases l with
    | nil => simp [dval]
    | cons d l =>
      have hd := h.head
      rw [List.getD_cons_succ, ← ih h.tail, dval, show 32 * (i + 1) = 32 + 32 * i from by omega, Nat.pow_add, ← Nat.div_div_eq_div_mul]
      have : (d + 4294967296 * dval l) / 2 ^ 32 = dval l := by omega
      rw [this]
/-- What 'trim' leaves of some digits: as many from the front as it takes. -/
theorem trim_zero {l : List Nat} {d : Nat} (hd : d = 0) : dval (l ++ [d]) = dval l := by rw [dval_app, hd]; simp [dval]
theorem digs_of_last {l : List Nat} (h : Sm l) (hl : ∀ d, l.getLast? = some d → d ≠ 0) : digs (dval l) = l := by
  induction l with
  | nil => exact digs_zero
  | cons d l ih =>
    have hd := h.head
    have h0 : dval (d :: l) ≠ 0 := by
      cases l with
      | nil => have := hl d (by simp); simp [dval]; exact this
      | cons e l =>
        intro hz
        have hz2 : dval (e :: l) = 0 := by rw [dval] at hz; omega
        have := ih h.tail (fun x hx => hl x (by simpa using hx))
        rw [hz2, digs_zero] at this
        cases this
    have e1 : dval (d :: l) % 4294967296 = d := by rw [dval]; omega
    have e2 : dval (d :: l) / 4294967296 = dval l := by rw [dval]; omega
    rw [digs_pos h0, e1, e2, ih h.tail]
    intro x hx
    cases l with
    | nil => cases hx
    | cons e l => exact hl x (by simpa using hx)
/-- The round of trim's loop. -/
theorem trim_step {l : List Nat} {n : Nat} (hn : 0 < n) (hl : n ≤ l.length) (h0 : l.getD (n - 1) 0 = 0) : dval (l.take n) = dval (l.take (n - 1)) := by
  obtain ⟨m, rfl⟩ : ∃ m, n = m + 1 := ⟨n - 1, by omega⟩
  have e : l.take (m + 1) = l.take m ++ [l.getD m 0] := by
    rw [List.take_succ_eq_append_getElem (by omega)]
    congr 2
    rw [List.getD_eq_getElem?_getD, List.getElem?_eq_getElem (by omega)]; rfl
  rw [e, show m + 1 - 1 = m from rfl]
  rw [show m + 1 - 1 = m from rfl] at h0
  exact trim_zero h0
theorem trim_end {l : List Nat} {n : Nat} (h : Sm l) (hl : n ≤ l.length) (h0 : 0 < n → l.getD (n - 1) 0 ≠ 0) : l.take n = digs (dval (l.take n)) := by
  symm
  refine digs_of_last (fun x hx => h x (List.mem_of_mem_take hx)) ?_
  intro d hd
  by_cases hn : n = 0
  · subst hn; simp at hd
  · have := h0 (by omega)
    rw [List.getLast?_eq_getElem?, List.length_take, Nat.min_eq_left hl, List.getElem?_take] at hd
    rw [if_pos (by omega)] at hd
    rw [List.getD_eq_getElem?_getD, hd] at this
    exact this
theorem mod_step (x i : Nat) : x % 2 ^ (32 * (i + 1)) = x % 2 ^ (32 * i) + 2 ^ (32 * i) * (x / 2 ^ (32 * i) % 4294967296) := by
  rw [show 32 * (i + 1) = 32 * i + 32 from by omega, Nat.pow_add, Nat.mod_mul]
theorem pow_step (i : Nat) : 2 ^ (32 * (i + 1)) = 2 ^ (32 * i) * 4294967296 := by
  rw [show 32 * (i + 1) = 32 * i + 32 from by omega, Nat.pow_add]
/-- Add's round. -/
theorem add_step {x y i v c s : Nat} (h : v + 2 ^ (32 * i) * c = x % 2 ^ (32 * i) + y % 2 ^ (32 * i)) (hs : s = c + x / 2 ^ (32 * i) % 4294967296 + y / 2 ^ (32 * i) % 4294967296) :
    (v + 2 ^ (32 * i) * (s % 4294967296)) + 2 ^ (32 * (i + 1)) * (s / 4294967296) = x % 2 ^ (32 * (i + 1)) + y % 2 ^ (32 * (i + 1)) := by
  rw [mod_step, mod_step, pow_step, Nat.mul_assoc]
  have e : s = s % 4294967296 + 4294967296 * (s / 4294967296) := by omega
  have e2 : 2 ^ (32 * i) * s = 2 ^ (32 * i) * (s % 4294967296) + 2 ^ (32 * i) * (4294967296 * (s / 4294967296)) := by rw [← Nat.mul_add, ← e]
  rw [hs, Nat.mul_add, Nat.mul_add] at e2
  rw [← hs] at e2
  omega
/-- Sub's round: the borrow is 0 or -1; b is what is borrowed. -/
theorem sub_step {x y i v b b' d : Nat} (h : v + y % 2 ^ (32 * i) = x % 2 ^ (32 * i) + 2 ^ (32 * i) * b) (hd : d + y / 2 ^ (32 * i) % 4294967296 + b = x / 2 ^ (32 * i) % 4294967296 + 4294967296 * b') :
    (v + 2 ^ (32 * i) * d) + y % 2 ^ (32 * (i + 1)) = x % 2 ^ (32 * (i + 1)) + 2 ^ (32 * (i + 1)) * b' := by
  rw [mod_step, mod_step, pow_step, Nat.mul_assoc]
  have e := congrArg (fun z => 2 ^ (32 * i) * z) hd
  simp only [Nat.mul_add] at e
  omega
theorem sub_end {x y n v b : Nat} (hyx : y ≤ x) (hx : x < 2 ^ (32 * n)) (hv : v < 2 ^ (32 * n)) (h : v + y % 2 ^ (32 * n) = x % 2 ^ (32 * n) + 2 ^ (32 * n) * b) : v = x - y := by
  rw [Nat.mod_eq_of_lt hx, Nat.mod_eq_of_lt (Nat.lt_of_le_of_lt hyx hx)] at h
  have : b = 0 := by
    rcases Nat.eq_zero_or_pos b with h0 | h0
    · exact h0
    · exfalso
      have : 2 ^ (32 * n) * 1 ≤ 2 ^ (32 * n) * b := Nat.mul_le_mul_left _ h0
      omega
  subst this
  omega
/-- Less' round, from the top: c is the rest, q the quotient of what is above. -/
theorem less_step {x d i c q : Nat} (hd : 0 < d) (hc : c = x / 2 ^ (32 * (i + 1)) % d) (hq : q = x / 2 ^ (32 * (i + 1)) / d) :
    x / 2 ^ (32 * i) % d = (c * 4294967296 + x / 2 ^ (32 * i) % 4294967296) % d ∧ x / 2 ^ (32 * i) / d = q * 4294967296 + (c * 4294967296 + x / 2 ^ (32 * i) % 4294967296) / d := by
  have e : x / 2 ^ (32 * i) = x / 2 ^ (32 * (i + 1)) * 4294967296 + x / 2 ^ (32 * i) % 4294967296 := by
    rw [pow_step, ← Nat.div_div_eq_div_mul]; omega
  have e3 := Nat.div_add_mod (x / 2 ^ (32 * (i + 1))) d
  rw [← hc, ← hq] at e3
  generalize x / 2 ^ (32 * i) % 4294967296 = r at *
  have e2 : x / 2 ^ (32 * i) = (c * 4294967296 + r) + d * (q * 4294967296) := by
    rw [e, ← e3, Nat.add_mul, Nat.mul_assoc]; omega
  rw [e2, Nat.add_mul_mod_self_left, Nat.add_mul_div_left _ _ hd]
  exact ⟨rfl, by omega⟩
theorem less_lt {x d i c : Nat} (hd : 0 < d) (hc : c < d) : (c * 4294967296 + x / 2 ^ (32 * i) % 4294967296) / d < 4294967296 := by
  rw [Nat.div_lt_iff_lt_mul hd]
  have : (c + 1) * 4294967296 ≤ d * 4294967296 := Nat.mul_le_mul_right _ hc
  omega
end Go.Proofs.YtocffoemimghhaaGreatDoor
end
section
namespace Go.Proofs.YtocffoemimghhaaGreatDoor
open Go.RowKit Go.Shelf

/-- The cells from a place on hold these digits. -/
def Cs (W : World) (b off : Nat) (l : List Nat) : Prop := ∀ i : Nat, i < l.length → W.cell? ⟨b, off + i, none⟩ = some (.int .u32 ((l.getD i 0 : Nat) : Int))
/-- A slice value that reads as these digits. -/
def Rd (W : World) (s : Value) (l : List Nat) : Prop :=
  (l = [] ∧ ∃ (a : Option Addr) (c : Nat), s = .slice a 0 c) ∨ (∃ b off c : Nat, s = .slice (some ⟨b, off, none⟩) l.length c ∧ (l.length ≤ c ∧ c ≤ 9223372036854775807) ∧ b < W.heap.size ∧ Cs W b off l)
theorem Cs.keep {W W' : World} {b off : Nat} {l : List Nat} (hb : Below W.heap.size W W') (hlt : b < W.heap.size) (h : Cs W b off l) : Cs W' b off l := fun i hi => by
  rw [← h i hi]; exact hb.cell (p := ⟨b, off + i, none⟩) hlt
theorem Rd.keep {W W' : World} {s : Value} {l : List Nat} (hb : Below W.heap.size W W') (h : Rd W s l) : Rd W' s l := by
  rcases h with h | ⟨b, off, c, e, hc, hlt, hcs⟩
  · exact .inl h
  · exact .inr ⟨b, off, c, e, hc, Nat.lt_of_lt_of_le hlt hb.size, hcs.keep hb hlt⟩

theorem at_in (b off c n : Nat) (l : List Nat) (i : Int) (h0 : 0 ≤ i) (h1 : i < (n : Int)) (hn : l.length = n) (w : World) (hcs : Cs w b off l) (hsm : Sm l) :
    Calls Tryz.prog 115 #[.slice (some ⟨b, off, none⟩) n c, .int .i64 i] w fun e w' => e = .returned (.int .u64 ((l.getD i.toNat 0 : Nat) : Int)) ∧ w' = w := by
  obtain ⟨k, rfl⟩ := Int.eq_ofNat_of_zero_le h0
  have hcell := hcs k (by omega)
  have hlt := hsm.get k
  rw [Int.toNat_natCast]
  generalize l.getD k 0 = v at hcell hlt ⊢
  clear hcs hsm
  go_enter Tryz.func115, Tryz.ntmps115
  go_wp2
  go_ret
  exact ⟨rfl, rfl⟩
theorem at_out (a : Option Addr) (c n : Nat) (i : Int) (h1 : (n : Int) ≤ i) (w : World) :
    Calls Tryz.prog 115 #[.slice a n c, .int .i64 i] w fun e w' => e = .returned (.int .u64 0) ∧ w' = w := by
  go_enter Tryz.func115, Tryz.ntmps115
  go_wp2
  go_ret
  exact ⟨rfl, rfl⟩

set_option maxHeartbeats 1000000 in
theorem trim_some (b off c : Nat) (l : List Nat) (hc : l.length ≤ c) (hmax : c ≤ 9223372036854775807) (w : World) (hcs : Cs w b off l) (hsm : Sm l) :
    Calls Tryz.prog 110 #[.slice (some ⟨b, off, none⟩) l.length c] w fun e w' => e = .returned (.slice (some ⟨b, off, none⟩) (digs (dval l)).length c) ∧ w' = w := by
  obtain ⟨n, hn⟩ : ∃ n, n = l.length := ⟨_, rfl⟩
  rw [← hn]
  have HN := Lib.hid hn; clear hn
  have hnc : n ≤ c := by rw [HN.out]; exact hc
  clear hc
  have HC := Lib.hid hcs; have HM := Lib.hid hsm; clear hcs hsm
  go_enter Tryz.func110, Tryz.ntmps110
  go_wp2
  go_loop [3] (fun v => ∃ k : Nat, v = .int .i64 (k : Int) ∧ k ≤ n ∧ Hid (dval (l.take k) = dval l)) (fun v => (intOf v).toNat)
  case atStart => exact ⟨n, rfl, Nat.le_refl _, by show dval (l.take n) = dval l; rw [HN.out, List.take_length]⟩
  case round =>
    obtain ⟨k, rfl, hk, HD⟩ := hrel
    by_cases h0 : k = 0
    · subst h0
      have hd : digs (dval l) = [] := by have := HD.out; rw [← this]; simp [dval, digs_zero]
      have HL : Hid ((digs (dval l)).length = 0) := by show _ = 0; rw [hd]; rfl
      clear hd
      go_wp2
      go_ret
      exact ⟨by rw [HL.out]; rfl, rfl⟩
    · obtain ⟨j, rfl⟩ : ∃ j, k = j + 1 := ⟨k - 1, by omega⟩
      have hcell := HC.out j (by have := HN.out; omega)
      have hlt := HM.out.get j
      by_cases hz : l.getD j 0 = 0
      · have HS : Hid (dval (l.take j) = dval l) := by
          show _ = _
          rw [← HD.out]
          exact (trim_step (n := j + 1) (by omega) (by have := HN.out; omega) hz).symm
        rw [hz] at hcell
        clear hz hlt h0 HD
        go_wp2
        go_round
        case rel => exact ⟨j, by go_num, by omega, HS⟩
        case measure => simp [intOf]
      · have HE : Hid ((digs (dval l)).length = j + 1) := by
          show _ = _
          have h := trim_end (l := l) (n := j + 1) HM.out (by have := HN.out; omega) (fun _ => hz)
          rw [HD.out] at h
          rw [← h, List.length_take, Nat.min_eq_left (by have := HN.out; omega)]
        generalize l.getD j 0 = v at hcell hz hlt
        have hz2 : ((v : Int) == 0) = false := by simpa using hz
        clear hz h0
        go_wp2
        go_ret
        exact ⟨by rw [HE.out]; rfl, rfl⟩

theorem trim_nil (a : Option Addr) (c : Nat) (w : World) :
    Calls Tryz.prog 110 #[.slice a 0 c] w fun e w' => e = .returned (.slice a 0 c) ∧ w' = w := by
  go_enter Tryz.func110, Tryz.ntmps110
  go_wp2
  refine wp_loop_rounds 1 ?_
  rw [rounds_succ]
  go_wp2
  go_ret
  exact ⟨rfl, rfl⟩
/-- trim: the digits of the number, as many as it takes. -/
theorem trim_any (s : Value) (l : List Nat) (w : World) (h : Rd w s l) (hsm : Sm l) :
    Calls Tryz.prog 110 #[s] w fun e w' => ∃ s', e = .returned s' ∧ Rd w s' (digs (dval l)) ∧ w' = w := by
  rcases h with ⟨rfl, a, c, rfl⟩ | ⟨b, off, c, rfl, hc, hlt, hcs⟩
  · refine (trim_nil a c w).mono ?_
    rintro e w' ⟨rfl, rfl⟩
    exact ⟨_, rfl, .inl ⟨by simp [dval, digs_zero], a, c, rfl⟩, rfl⟩
  · refine (trim_some b off c l hc.1 hc.2 w hcs hsm).mono ?_
    rintro e w' ⟨rfl, rfl⟩
    have hle : (digs (dval l)).length ≤ l.length := digs_len.2 (dval_lt hsm)
    refine ⟨_, rfl, .inr ⟨b, off, c, rfl, by omega, hlt, fun i hi => ?_⟩, rfl⟩
    rw [hcs i (by omega), digs_get, dval_get hsm]
end Go.Proofs.YtocffoemimghhaaGreatDoor
end
section
namespace Go.Proofs.YtocffoemimghhaaGreatDoor
open Go.RowKit Go.Shelf

/-- A slice value that reads as a number's digits, as many as it takes. -/
def DR (W : World) (s : Value) (x : Nat) : Prop := Rd W s (digs x)
theorem DR.keep {W W' : World} {s : Value} {x : Nat} (hb : Below W.heap.size W W') (h : DR W s x) : DR W' s x := Rd.keep hb h
theorem DR.form {W : World} {s : Value} {x : Nat} (h : DR W s x) : ∃ (A : Option Addr) (c : Nat), s = .slice A (digs x).length c ∧ (0 < (digs x).length → (digs x).length ≤ c) := by
  rcases h with ⟨h, A, c, e⟩ | ⟨b, off, c, e, hc, _⟩
  · exact ⟨A, c, by rw [h]; exact e, by rw [h]; intro h; cases h⟩
  · exact ⟨_, c, e, fun _ => hc.1⟩
theorem at_dr {s : Value} {x : Nat} {w : World} (h : DR w s x) (i : Int) (h0 : 0 ≤ i) :
    Calls Tryz.prog 115 #[s, .int .i64 i] w fun e w' => e = .returned (.int .u64 ((x / 2 ^ (32 * i.toNat) % 4294967296 : Nat) : Int)) ∧ w' = w := by
  obtain ⟨k, rfl⟩ := Int.eq_ofNat_of_zero_le h0
  rw [Int.toNat_natCast, ← digs_get]
  rcases h with ⟨h, A, c, rfl⟩ | ⟨b, off, c, rfl, hc, hlt, hcs⟩
  · have e : (digs x).getD k 0 = 0 := by rw [h]; rfl
    rw [e]
    exact at_out A c 0 k (by omega) w
  · by_cases hk : k < (digs x).length
    · have := at_in b off c _ (digs x) k (by omega) (by omega) rfl w hcs (digs_sm x)
      rw [Int.toNat_natCast] at this
      exact this
    · have e : (digs x).getD k 0 = 0 := by rw [List.getD_eq_getElem?_getD, List.getElem?_eq_none (by omega)]; rfl
      rw [e]
      exact at_out _ c _ k (by omega) w
/-- A row of the call's own reads as its digits. -/
theorem rd_own {W : World} {base : Nat} {v : Value} {l : List Nat} (h : W.ownsRow base 92 1 v l.length (l.map fun d => Value.int .u32 ((d : Nat) : Int))) : Rd W v l := by
  obtain ⟨_, h⟩ := h
  rcases h with ⟨rfl, h0⟩ | ⟨g, cap, cur, rfl, hb, hh, hn, hm, hsz, ht⟩
  · exact .inl ⟨List.length_eq_zero_iff.1 h0, none, 0, rfl⟩
  · refine .inr ⟨g, 0, cap, rfl, ⟨hn, by unfold maxLen at hm; omega⟩, ?_, fun i hi => ?_⟩
    · rcases Nat.lt_or_ge g W.heap.size with hlt | hge
      · exact hlt
      · rw [Array.getElem?_eq_none hge] at hh; cases hh
    · rw [cell_of_row W g (0 + i) _ _ _ hh, Nat.zero_add]
      have e : (l.map fun d => Value.int .u32 ((d : Nat) : Int))[i]? = some (.int .u32 ((l.getD i 0 : Nat) : Int)) := by
        rw [List.getElem?_map, List.getD_eq_getElem?_getD, List.getElem?_eq_getElem hi]; rfl
      rw [← ht, Nat.mul_one, List.getElem?_take, if_pos hi] at e
      rw [← e]
      simp
/-- trim, said of a number. -/
theorem trim_dr {s : Value} {l : List Nat} {w : World} (h : Rd w s l) (hsm : Sm l) :
    Calls Tryz.prog 110 #[s] w fun e w' => ∃ s', e = .returned s' ∧ DR w s' (dval l) ∧ w' = w := trim_any s l w h hsm
theorem cell_new1 (W : World) (v : Value) (T : TypeId) : ∀ j u, [v][j]? = some u → (W.alloc (.cells #[v] T)).cell? ((⟨W.heap.size, 0, none⟩ : Addr).add j) = some u := by
  intro j u hu
  match j, hu with
  | 0, hu => simp at hu; subst hu; simp [Addr.add]
theorem one_new1 (k : IntKind) (n : Int) : ∀ u ∈ [Value.int k n], u.oneCell' = true := by intro u hu; simp at hu; subst hu; rfl
theorem info_u32 : (Tryz.prog.info? 92).map (fun i => (i.zero, i.size, i.bytes)) = some (some (.int .u32 0), 1, 4) := by kernel_rfl
theorem und_d : Tryz.prog.underlying 85 = some (.slice 92) := by kernel_rfl
end Go.Proofs.YtocffoemimghhaaGreatDoor
end
section
namespace Go.Proofs.YtocffoemimghhaaGreatDoor
open Go.RowKit Go.Shelf

abbrev U32s (l : List Nat) : List Value := l.map fun d => Value.int .u32 ((d : Nat) : Int)
theorem U32s_snoc (O : List Nat) (d : Nat) (z : Int) (e : (d : Int) = z) : U32s (O ++ [d]) = U32s O ++ [.int .u32 z] := by
  unfold U32s
  rw [List.map_append, List.map_cons, List.map_nil, e]
/-- What holds at the head of Add's loop. -/
def AddInv (x y k cc : Nat) (O : List Nat) : Prop := O.length = k ∧ Sm O ∧ cc ≤ 1 ∧ dval O + 2 ^ (32 * k) * cc = x % 2 ^ (32 * k) + y % 2 ^ (32 * k)
theorem AddInv.zero (x y : Nat) : AddInv x y 0 0 [] := ⟨rfl, Sm.nil, by omega, by simp [dval, Nat.mod_one]⟩
theorem AddInv.next {x y k cc : Nat} {O : List Nat} (h : AddInv x y k cc O) {a b s : Nat} (ha : a = x / 2 ^ (32 * k) % 4294967296) (hb : b = y / 2 ^ (32 * k) % 4294967296) (hs : s = cc + a + b) :
    AddInv x y (k + 1) (s / 4294967296) (O ++ [s % 4294967296]) := by
  obtain ⟨h1, h2, h3, h4⟩ := h
  refine ⟨by simp [h1], h2.app (Sm.one (by omega)), by omega, ?_⟩
  rw [dval_app, h1]
  have := add_step (v := dval O) (s := s) h4 (by rw [hs, ha, hb])
  simp only [dval]
  rw [Nat.mul_zero, Nat.add_zero]
  exact this
theorem AddInv.stop {x y k : Nat} {O : List Nat} (h : AddInv x y k 0 O) (hx : (digs x).length ≤ k) (hy : (digs y).length ≤ k) : dval O = x + y := by
  obtain ⟨_, _, _, h4⟩ := h
  rw [Nat.mod_eq_of_lt (digs_len.1 hx), Nat.mod_eq_of_lt (digs_len.1 hy)] at h4
  omega
/-- One digit more than the longer one is enough. -/
theorem AddInv.last {x y k cc : Nat} {O : List Nat} (h : AddInv x y (k + 1) cc O) (hx : (digs x).length ≤ k) (hy : (digs y).length ≤ k) : cc = 0 := by
  obtain ⟨_, _, h3, h4⟩ := h
  have e1 := digs_len.1 hx
  have e2 := digs_len.1 hy
  rw [Nat.mod_eq_of_lt (digs_len.1 (Nat.le_succ_of_le hx)), Nat.mod_eq_of_lt (digs_len.1 (Nat.le_succ_of_le hy)), pow_step] at h4
  rcases Nat.eq_zero_or_pos cc with h0 | h0
  · exact h0
  · exfalso
    have : 2 ^ (32 * k) * 4294967296 * 1 ≤ 2 ^ (32 * k) * 4294967296 * cc := Nat.mul_le_mul_left _ h0
    omega

end Go.Proofs.YtocffoemimghhaaGreatDoor
end
section
namespace Go.Proofs.YtocffoemimghhaaGreatDoor
open Go.RowKit Go.Shelf

/-- What holds at the head of Sub's loop: b is what is borrowed. -/
def SubInv (x y k b : Nat) (O : List Nat) : Prop := O.length = k ∧ Sm O ∧ b ≤ 1 ∧ dval O + y % 2 ^ (32 * k) = x % 2 ^ (32 * k) + 2 ^ (32 * k) * b
theorem SubInv.zero (x y : Nat) : SubInv x y 0 0 [] := ⟨rfl, Sm.nil, by omega, by simp [dval, Nat.mod_one]⟩
theorem SubInv.next {x y k b : Nat} {O : List Nat} (h : SubInv x y k b O) {p q d b' : Nat} (hp : p = x / 2 ^ (32 * k) % 4294967296) (hq : q = y / 2 ^ (32 * k) % 4294967296) (hd : d < 4294967296) (hb : b' ≤ 1) (e : d + q + b = p + 4294967296 * b') :
    SubInv x y (k + 1) b' (O ++ [d]) := by
  obtain ⟨h1, h2, h3, h4⟩ := h
  refine ⟨by simp [h1], h2.app (Sm.one hd), hb, ?_⟩
  rw [dval_app, h1]
  have := sub_step (v := dval O) (d := d) (b' := b') h4 (by rw [← hp, ← hq]; exact e)
  simp only [dval]
  rw [Nat.mul_zero, Nat.add_zero]
  exact this
theorem SubInv.stop {x y k b : Nat} {O : List Nat} (h : SubInv x y k b O) (hx : (digs x).length ≤ k) (hyx : y ≤ x) : dval O = x - y := by
  obtain ⟨h1, h2, _, h4⟩ := h
  exact sub_end hyx (digs_len.1 hx) (by rw [← h1]; exact dval_lt h2) h4

end Go.Proofs.YtocffoemimghhaaGreatDoor
end
section
namespace Go.Proofs.YtocffoemimghhaaGreatDoor
open Go.RowKit Go.Shelf

/-- Block g is just these digits. -/
def Dk (W : World) (g : Nat) (O : List Nat) : Prop := W.heap[g]? = some (.cells (U32s O).toArray 92 (0, 0))
theorem Dk.lt {W : World} {g : Nat} {O : List Nat} (h : Dk W g O) : g < W.heap.size := by
  rcases Nat.lt_or_ge g W.heap.size with hlt | hge
  · exact hlt
  · unfold Dk at h; rw [Array.getElem?_eq_none hge] at h; cases h
theorem U32s_at {O : List Nat} {i : Nat} (hi : i < O.length) : (U32s O)[i]? = some (.int .u32 ((O.getD i 0 : Nat) : Int)) := by
  unfold U32s
  rw [List.getElem?_map, List.getD_eq_getElem?_getD, List.getElem?_eq_getElem hi]; rfl
theorem Dk.cell {W : World} {g : Nat} {O : List Nat} (h : Dk W g O) {i : Nat} (hi : i < O.length) : W.cell? ⟨g, i, none⟩ = some (.int .u32 ((O.getD i 0 : Nat) : Int)) := by
  rw [cell_of_row W g i _ _ _ h, ← U32s_at hi]
  simp
theorem Dk.free {W : World} {g : Nat} {O : List Nat} (h : Dk W g O) (i : Nat) : W.frozen? ⟨g, i, none⟩ = false := frozen_of_row W g i _ _ h
theorem Dk.keep {W W' : World} {g : Nat} {O : List Nat} (hb : Below W.heap.size W W') (h : Dk W g O) : Dk W' g O := (hb.block g h.lt).trans h
theorem Dk.set {W : World} {g : Nat} {O : List Nat} (h : Dk W g O) (i d : Nat) (z : Int) (e : (d : Int) = z) : Dk (W.setCell ⟨g, i, none⟩ (.int .u32 z)) g (O.set i d) := by
  unfold Dk at *
  rw [heap_setCell_same W g i _ _ _ h]
  congr 2
  rw [← e]
  apply Array.ext'
  simp [U32s, List.map_set]
theorem Dk.rd {W : World} {g : Nat} {O : List Nat} (h : Dk W g O) (hl : O.length ≤ 9223372036854775807) : Rd W (.slice (some ⟨g, 0, none⟩) O.length O.length) O :=
  .inr ⟨g, 0, O.length, rfl, ⟨Nat.le_refl _, hl⟩, h.lt, fun i hi => by rw [Nat.zero_add]; exact h.cell hi⟩
theorem made_u32 (N : Nat) : madeCells #[.int .u32 0] N = (U32s (List.replicate N 0)).toArray := by
  apply Array.ext'
  apply List.ext_getElem
  · simp [madeCells, U32s]
  · intro i h1 h2
    simp [madeCells, U32s, Nat.mod_one]
theorem make_u32 (N : Nat) (hN : N ≤ 100000) (z : Int) (e : (N : Int) = z) (W : World) :
    (Instr.makeSlice 85 (.int .i64 z) (.int .i64 z)).run Tryz.prog W = .ok (.slice (some ⟨W.heap.size, 0, none⟩) N N) (W.alloc (.cells (U32s (List.replicate N 0)).toArray 92)) := by
  rw [← e, ← made_u32]
  exact run_make_row' 85 92 (.int .u32 0) 4 und_d info_u32 rfl .i64 .i64 N (by omega) (by omega) W
theorem Dk.new (W : World) (O : List Nat) : Dk (W.alloc (.cells (U32s O).toArray 92)) W.heap.size O := heap_alloc_new W _
theorem Sm.zeros (N : Nat) : Sm (List.replicate N 0) := fun d hd => by rw [List.eq_of_mem_replicate hd]; decide
theorem dval_zeros (N : Nat) : dval (List.replicate N 0) = 0 := by
  induction N with
  | zero => rfl
  | succ N ih => rw [List.replicate_succ, dval, ih]
theorem dval_set (l : List Nat) (p d : Nat) (h : p < l.length) : dval (l.set p d) + 2 ^ (32 * p) * l.getD p 0 = dval l + 2 ^ (32 * p) * d := by
  induction l generalizing p with
  | nil => cases h
  | cons e l ih =>
    cases p with
    | zero => simp only [List.set_cons_zero, dval, List.getD_cons_zero, Nat.mul_zero, Nat.pow_zero, Nat.one_mul]; omega
    | succ p =>
      have := ih p (by simpa using h)
      rw [List.set_cons_succ, dval, dval, List.getD_cons_succ, show 32 * (p + 1) = 32 + 32 * p from by omega, Nat.pow_add, Nat.mul_assoc, Nat.mul_assoc]
      have e2 : (2 : Nat) ^ 32 = 4294967296 := by decide
      rw [e2]
      omega
theorem dval_ge (l : List Nat) (p : Nat) : 2 ^ (32 * p) * l.getD p 0 ≤ dval l := by
  induction l generalizing p with
  | nil => simp
  | cons e l ih =>
    cases p with
    | zero => simp only [dval, List.getD_cons_zero, Nat.mul_zero, Nat.pow_zero, Nat.one_mul]; omega
    | succ p =>
      have := ih p
      rw [dval, List.getD_cons_succ, show 32 * (p + 1) = 32 + 32 * p from by omega, Nat.pow_add, Nat.mul_assoc]
      have e2 : (2 : Nat) ^ 32 = 4294967296 := by decide
      rw [e2]
      omega
/-- What holds at the head of the outer loop, of the inner one. -/
def MulOut (x y N i : Nat) (O : List Nat) : Prop := O.length = N ∧ Sm O ∧ dval O = (x % 2 ^ (32 * i)) * y
def MulIn (x y N i j c : Nat) (O : List Nat) : Prop :=
  O.length = N ∧ Sm O ∧ c < 4294967296 ∧ dval O + 2 ^ (32 * (i + j)) * c = (x % 2 ^ (32 * i)) * y + 2 ^ (32 * i) * ((x / 2 ^ (32 * i) % 4294967296) * (y % 2 ^ (32 * j)))
theorem MulOut.zero (x y N : Nat) : MulOut x y N 0 (List.replicate N 0) := ⟨by simp, Sm.zeros N, by rw [dval_zeros]; simp [Nat.mod_one]⟩
theorem MulOut.into {x y N i : Nat} {O : List Nat} (h : MulOut x y N i O) : MulIn x y N i 0 0 O := by
  obtain ⟨h1, h2, h3⟩ := h
  exact ⟨h1, h2, by omega, by rw [h3]; simp [Nat.mod_one]⟩
theorem MulIn.next {x y N i j c : Nat} {O : List Nat} (h : MulIn x y N i j c O) (hp : i + j < N) {o a b s : Nat} (ho : o = O.getD (i + j) 0) (ha : a = x / 2 ^ (32 * i) % 4294967296) (hb : b = y / 2 ^ (32 * j) % 4294967296) (hs : s = c + o + a * b) (hs2 : s < 18446744073709551616) :
    MulIn x y N i (j + 1) (s / 4294967296) (O.set (i + j) (s % 4294967296)) := by
  obtain ⟨h1, h2, h3, h4⟩ := h
  refine ⟨by simp [h1], h2.set _ (by omega), by omega, ?_⟩
  have e := dval_set O (i + j) (s % 4294967296) (by omega)
  rw [← ho] at e
  rw [mod_step y j, ← hb, show i + (j + 1) = (i + j) + 1 from by omega, pow_step, Nat.mul_add ( x / 2 ^ (32 * i) % 4294967296), Nat.mul_add (2 ^ (32 * i))]
  rw [← ha] at h4 ⊢
  have e3 : 2 ^ (32 * i) * (a * (2 ^ (32 * j) * b)) = 2 ^ (32 * (i + j)) * (a * b) := by
    rw [Nat.mul_left_comm a, ← Nat.mul_assoc, ← Nat.pow_add, ← Nat.mul_add]
  rw [e3]
  have e4 : 2 ^ (32 * (i + j)) * s = 2 ^ (32 * (i + j)) * (s % 4294967296) + 2 ^ (32 * (i + j)) * 4294967296 * (s / 4294967296) := by
    rw [Nat.mul_assoc, ← Nat.mul_add]
    congr 1
    omega
  have e5 : 2 ^ (32 * (i + j)) * s = 2 ^ (32 * (i + j)) * c + 2 ^ (32 * (i + j)) * o + 2 ^ (32 * (i + j)) * (a * b) := by
    rw [hs, Nat.mul_add, Nat.mul_add]
  omega
theorem MulIn.stop {x y N i j : Nat} {O : List Nat} (h : MulIn x y N i j 0 O) (hy : (digs y).length ≤ j) : MulOut x y N (i + 1) O := by
  obtain ⟨h1, h2, h3, h4⟩ := h
  refine ⟨h1, h2, ?_⟩
  rw [Nat.mul_zero, Nat.add_zero, Nat.mod_eq_of_lt (digs_len.1 hy)] at h4
  rw [h4, mod_step, Nat.add_mul, Nat.mul_assoc]
/-- Behind the last digit of the second number nothing is carried on. -/
theorem MulIn.last {x y N i j c : Nat} {O : List Nat} (h : MulIn x y N i j c O) (hy : (digs y).length ≤ j) : c + O.getD (i + j) 0 < 4294967296 := by
  obtain ⟨h1, h2, h3, h4⟩ := h
  rw [Nat.mod_eq_of_lt (digs_len.1 hy), ← Nat.mul_assoc, ← Nat.add_mul, ← mod_step] at h4
  have g := dval_ge O (i + j)
  have hx : x % 2 ^ (32 * (i + 1)) < 2 ^ (32 * (i + 1)) := Nat.mod_lt _ (Nat.two_pow_pos _)
  have hyl := digs_len.1 hy
  have ht : x % 2 ^ (32 * (i + 1)) * y < 2 ^ (32 * (i + j)) * 4294967296 := by
    have e : 2 ^ (32 * (i + j)) * 4294967296 = 2 ^ (32 * (i + 1)) * 2 ^ (32 * j) := by
      rw [show (4294967296 : Nat) = 2 ^ 32 from by decide, ← Nat.pow_add, ← Nat.pow_add]; congr 1; omega
    rw [e]
    rcases Nat.eq_zero_or_pos y with h0 | h0
    · rw [h0, Nat.mul_zero]; exact Nat.mul_pos (Nat.two_pow_pos _) (Nat.two_pow_pos _)
    · exact Nat.mul_lt_mul'' hx hyl
  have hq : 2 ^ (32 * (i + j)) * (c + O.getD (i + j) 0) < 2 ^ (32 * (i + j)) * 4294967296 := by rw [Nat.mul_add]; omega
  exact Nat.lt_of_mul_lt_mul_left hq
theorem MulOut.stop {x y N i : Nat} {O : List Nat} (h : MulOut x y N i O) (hx : (digs x).length ≤ i) : dval O = x * y := by
  rw [h.2.2, Nat.mod_eq_of_lt (digs_len.1 hx)]
theorem sum_bound {c o a b : Nat} (hc : c < 4294967296) (ho : o < 4294967296) (ha : a < 4294967296) (hb : b < 4294967296) : c + o + a * b < 18446744073709551616 ∧ a * b ≤ 18446744065119617025 := by
  have h : a * b ≤ 4294967295 * 4294967295 := Nat.mul_le_mul (by omega) (by omega)
  omega
end Go.Proofs.YtocffoemimghhaaGreatDoor
end
section
namespace Go.Proofs.YtocffoemimghhaaGreatDoor
open Go.RowKit Go.Shelf

/-- What holds at the head of Of's loop. -/
def OfInv (x k : Nat) (O : List Nat) : Prop := O.length = 2 * k ∧ Sm O ∧ dval O = x % 2 ^ (64 * k)
theorem OfInv.zero (x : Nat) : OfInv x 0 [] := ⟨rfl, Sm.nil, by simp [dval, Nat.mod_one]⟩
theorem OfInv.next {x k : Nat} {O : List Nat} (h : OfInv x k O) {a : Nat} (ha : a = x / 2 ^ (64 * k) % 18446744073709551616) : OfInv x (k + 1) (O ++ [a % 4294967296, a / 4294967296]) := by
  obtain ⟨h1, h2, h3⟩ := h
  have ha1 : a < 18446744073709551616 := by omega
  refine ⟨by simp [h1]; omega, h2.app (Sm.cons (by omega) (Sm.one (by omega))), ?_⟩
  rw [dval_app, h1, h3]
  have e : dval [a % 4294967296, a / 4294967296] = a := by simp only [dval]; omega
  rw [e, show 64 * (k + 1) = 64 * k + 64 from by omega, Nat.pow_add, Nat.mod_mul, show 32 * (2 * k) = 64 * k from by omega, show (2 : Nat) ^ 64 = 18446744073709551616 from by decide, ← ha]
theorem Row4.at {W : World} {b x : Nat} (h : Row4 W b (.int .u64 (lb 0 x)) (.int .u64 (lb 1 x)) (.int .u64 (lb 2 x)) (.int .u64 (lb 3 x))) (k : Nat) (hk : k < 4) : W.cell? ⟨b, k, none⟩ = some (.int .u64 ((x / 2 ^ (64 * k) % 18446744073709551616 : Nat) : Int)) := by
  have e : lb k x = ((x / 2 ^ (64 * k) % 18446744073709551616 : Nat) : Int) := by unfold lb; rfl
  rw [← e]
  have : k = 0 ∨ k = 1 ∨ k = 2 ∨ k = 3 := by omega
  rcases this with rfl | rfl | rfl | rfl
  · exact h.four.1
  · exact h.four.2.1
  · exact h.four.2.2.1
  · exact h.four.2.2.2
theorem Row4.grown {W W' : World} {b : Nat} {v0 v1 v2 v3 : Value} {row : Option Nat} (h : Row4 W b v0 v1 v2 v3) (hg : W.grownBy W' row) (hne : some b ≠ row) : Row4 W' b v0 v1 v2 v3 := by
  have := h.lt
  unfold Row4 at *
  rw [← h]
  exact hg.block b this hne

set_option maxHeartbeats 1000000 in
set_option maxRecDepth 100000 in
theorem rof (x : Nat) (hx : x < 2 ^ 256) (w : World) :
    Calls Tryz.prog 70 #[N4 x] w fun e w' => ∃ s', e = .returned s' ∧ DR w' s' x ∧ Below w.heap.size w w' := by
  obtain ⟨i0, hi, hz0, hz1, hz2⟩ := info_parts info_u32
  have HX := Lib.hid hx; clear hx
  have hN : Row4 (w.alloc (.cells #[.int .u64 (lb 0 x), .int .u64 (lb 1 x), .int .u64 (lb 2 x), .int .u64 (lb 3 x)] 24)) w.heap.size (.int .u64 (lb 0 x)) (.int .u64 (lb 1 x)) (.int .u64 (lb 2 x)) (.int .u64 (lb 3 x)) := Row4.new w _ _ _ _
  have HN := Lib.hid hN; clear hN
  go_enter Tryz.func70, Tryz.ntmps70
  go_wp2
  go_loopw [3, 4] (fun v i wr => ∃ (k : Nat) (O : List Nat), i = .int .i64 (k : Int) ∧ k ≤ 4 ∧ Hid (OfInv x k O) ∧ wr.ownsRow (w.heap.size + 1) 92 1 v (2 * k) (U32s O) ∧ Hid (Row4 wr w.heap.size (.int .u64 (lb 0 x)) (.int .u64 (lb 1 x)) (.int .u64 (lb 2 x)) (.int .u64 (lb 3 x))) ∧ Below w.heap.size w wr)
    (fun _ i _ => 4 - (intOf i).toNat)
  case atStart => exact ⟨0, [], rfl, by omega, OfInv.zero x, World.ownsRow_nil _ _ _ _, HN.out, bal (Below.refl _ _) _⟩
  case round =>
    obtain ⟨k, O, rfl, hk, HI, hown, HR, hbw⟩ := hrel
    by_cases h1 : k < 4
    · obtain ⟨a, ha⟩ : ∃ a, a = x / 2 ^ (64 * k) % 18446744073709551616 := ⟨_, rfl⟩
      have q1 := HR.out.at k h1
      rw [← ha] at q1
      have hlt := HR.out.lt
      have ha1 : a < 18446744073709551616 := by omega
      have HA := Lib.hid ha; clear ha
      have b0 : (0 : Int) ≤ (k : Int) := by omega
      have b1 : (k : Int) < 4 := by omega
      go_upto_region 5 with (fail)
      have ag : u3.ownBlock ≠ some w.heap.size := fun e => by have := (hown.lt _ e).1; omega
      go_region_held3 (fun w' => w'.cell? ⟨w.heap.size, k, none⟩ = some (.int .u64 (a : Int)))
        (first | go_keep | (rw [hgrow.cell_far _ (by simp; omega) (Ne.symm ag)]; assumption))
        ((refine step_append_lies _ (by rfl) _ _ _ (by rfl) (w.heap.size + 1) 92 i0 _ 1 4 und_d hi hz0 hz1 hz2 rfl (by omega) u3 (2 * k) (U32s O) (by rfl) ((hown.alloc _).drew) ⟨wr.heap.size, 0, none⟩ 2 2 [.int .u32 (IntKind.u32.wrap (a : Int)), .int .u32 (IntKind.u32.wrap ((a : Int) / 4294967296))] (by rfl) (by rfl) (World.news_of_block (cs := #[.int .u32 (IntKind.u32.wrap (a : Int)), .int .u32 (IntKind.u32.wrap ((a : Int) / 4294967296))]) (t := 92) (fr := (0, 0)) (heap_alloc_new wr _)) (by simp [Value.oneCell']) (by omega) (by unfold maxLen; omega) (by omega) (by simp; omega) (wr.heap.size + 1) (by simp) ?_; intro gg cap w1 hown1 hgrow hat hlt1))
      have hown2 : w1.ownsRow (w.heap.size + 1) 92 1 (.slice (some ⟨gg, 0, none⟩) (2 * k + 2) cap) (2 * (k + 1)) (U32s (O ++ [a % 4294967296, a / 4294967296])) := by
        have e : U32s (O ++ [a % 4294967296, a / 4294967296]) = U32s O ++ [.int .u32 (IntKind.u32.wrap (a : Int)), .int .u32 (IntKind.u32.wrap ((a : Int) / 4294967296))] := by
          rw [IntKind.wrap_u32', IntKind.wrap_u32', show (a : Int) / 4294967296 % 4294967296 = (a : Int) / 4294967296 from by omega]
          unfold U32s
          rw [List.map_append, List.map_cons, List.map_cons, List.map_nil]
          congr 4
        rw [e]
        exact hown1
      have HR2 : Hid (Row4 w1 w.heap.size (.int .u64 (lb 0 x)) (.int .u64 (lb 1 x)) (.int .u64 (lb 2 x)) (.int .u64 (lb 3 x))) := Row4.grown (Row4.drew (Row4.alloc HR.out _)) hgrow (Ne.symm ag)
      have hb1 : Below w.heap.size w w1 := ((hbw.alloc hbw.size _).drew).grown hgrow (by simp; have := hbw.size; omega) (fun q hq => by have := (hown.lt q hq).1; omega)
      clear hown1 hgrow hown HR q1
      go_wp2
      go_roundw
      case rel => exact ⟨k + 1, _, by go_num, by omega, HI.out.next HA.out, hown2, HR2, hb1⟩
      case measure => simp [intOf]; omega
    · obtain rfl : k = 4 := by omega
      have hl : O.length = 2 * 4 := HI.out.1
      have hv : dval O = x := by rw [HI.out.2.2, Nat.mod_eq_of_lt HX.out]
      have hrd := rd_own (l := O) (by rw [hl]; exact hown)
      have ht := trim_dr hrd HI.out.2.1
      rw [hv] at ht
      have HT := Lib.hid ht
      clear ht hv hl hrd
      go_wp2_with fail
      refine HT.out.mono ?_
      rintro e w1 ⟨s', rfl, hr, hw⟩
      rw [hw]; clear hw w1
      go_wp2
      go_ret
      exact ⟨s', rfl, hr, hbw⟩
end Go.Proofs.YtocffoemimghhaaGreatDoor
end
section
namespace Go.Proofs.YtocffoemimghhaaGreatDoor
open Go.RowKit Go.Shelf
open Go.Sort (grow)

theorem calls_below0 {f : FuncId} {args : Array Value} {w : World} {r : Ending} (h : Calls Tryz.prog f args w fun e w' => e = r ∧ w' = w) : Calls Tryz.prog f args w fun e w' => e = r ∧ Below w.heap.size w w' :=
  h.mono fun _ _ ⟨he, hw⟩ => ⟨he, by rw [hw]; exact Below.refl _ _⟩
set_option maxHeartbeats 2000000 in
set_option maxRecDepth 100000 in
theorem rmul_core (ba oa : Nat) (B : Option Addr) (n ca m cb x y N : Nat) (hn : n = (digs x).length) (hm : m = (digs y).length) (hn0 : 0 < n) (hn1 : n ≤ 1000) (hm1 : m ≤ 1000) (hN : N = n + m + 1) (w : World)
    (hba : ba < w.heap.size) (hx : Cs w ba oa (digs x)) (hy : DR w (.slice B m cb) y) :
    Calls Tryz.prog 75 #[.slice (some ⟨ba, oa, none⟩) n ca, .slice B m cb] w fun e w' => ∃ s', e = .returned s' ∧ DR w' s' (x * y) ∧ Below w.heap.size w w' := by
  have hmk := make_u32 N (by omega) ((n : Int) + (m : Int) + 1) (by omega)
  obtain ⟨M, hM⟩ : ∃ M, M = (U32s (List.replicate N 0)).toArray := ⟨_, rfl⟩
  rw [← hM] at hmk
  have HMM := Lib.hid hM; clear hM
  have HN := Lib.hid hn; have HM := Lib.hid hm; have HX := Lib.hid hx; have HY := Lib.hid hy; have HNN := Lib.hid hN; clear hn hm hx hy hN
  go_enter Tryz.func75, Tryz.ntmps75
  go_wp2
  go_loopw [6] (fun i wr => ∃ (k : Nat) (O : List Nat), i = .int .i64 (k : Int) ∧ k ≤ n ∧ Hid (MulOut x y N k O) ∧ Hid (Dk wr w.heap.size O) ∧ Below w.heap.size w wr)
    (fun i _ => n - (intOf i).toNat)
  case atStart => exact ⟨0, _, rfl, by omega, MulOut.zero x y N, (by show Dk _ _ _; rw [HMM.out]; exact Dk.new w _), bal (Below.refl _ _) _⟩
  case round =>
    obtain ⟨k, O, rfl, hk, HI, HD, hbw⟩ := hrel
    obtain ⟨wo, rfl⟩ : ∃ wo : World, wo = wr := ⟨_, rfl⟩
    by_cases h1 : k < n
    · obtain ⟨a, ha⟩ : ∃ a, a = x / 2 ^ (32 * k) % 4294967296 := ⟨_, rfl⟩
      have ha1 : a < 4294967296 := by omega
      have HA := Lib.hid ha; clear ha
      go_wp2
      go_loopw [7, 8] (fun c j wi => ∃ (q cc : Nat) (P : List Nat), c = .int .u64 (cc : Int) ∧ j = .int .i64 (q : Int) ∧ q ≤ m + 1 ∧ Hid (MulIn x y N k q cc P) ∧ Hid (q = m + 1 → cc = 0) ∧ Hid (Dk wi w.heap.size P) ∧ Below w.heap.size w wi)
        (fun _ j _ => m + 1 - (intOf j).toNat)
      case atStart => exact ⟨0, 0, O, rfl, rfl, by omega, HI.out.into, fun h => by omega, HD, hbw⟩
      case round =>
        obtain ⟨q, cc, P, rfl, rfl, hq, HJ, HC, HE, hbi⟩ := hrel
        obtain ⟨wv, rfl⟩ : ∃ wv : World, wv = wr := ⟨_, rfl⟩
        have hc1 : cc < 4294967296 := HJ.out.2.2.1
        by_cases hgo : q < m ∨ 0 < cc
        · have hqm : q ≤ m := by
            apply Decidable.byContradiction
            intro h
            have := HC.out (by omega)
            omega
          obtain ⟨p, hp⟩ : ∃ p, p = k + q := ⟨_, rfl⟩
          have hpN : p < N := by have := HNN.out; omega
          obtain ⟨b, hb⟩ : ∃ b, b = y / 2 ^ (32 * q) % 4294967296 := ⟨_, rfl⟩
          have hb1 : b < 4294967296 := by omega
          have hl : P.length = N := HJ.out.1
          obtain ⟨o, ho⟩ : ∃ o, o = P.getD (k + q) 0 := ⟨_, rfl⟩
          have ho1 : o < 4294967296 := by rw [ho]; exact HJ.out.2.1.get _
          obtain ⟨sb, ab⟩ := sum_bound hc1 ho1 ha1 hb1
          obtain ⟨s, hs⟩ : ∃ s, s = cc + o + a * b := ⟨_, rfl⟩
          obtain ⟨pr, hpr⟩ : ∃ pr, pr = a * b := ⟨_, rfl⟩
          have hNX := HJ.out.next (by omega) ho HA.out hb hs (by rw [hs]; exact sb)
          have hlast : q = m → cc + o < 4294967296 := by
            intro e
            rw [ho]
            exact HJ.out.last (by have := HM.out; omega)
          have hb0 : q = m → b = 0 := by
            intro e
            have := digs_len.1 (show (digs y).length ≤ q by have := HM.out; omega)
            rw [hb, Nat.div_eq_of_lt this]
          have hC' : q + 1 = m + 1 → s / 4294967296 = 0 := by
            intro e
            have e1 := hlast (by omega)
            have e2 := hb0 (by omega)
            rw [hs, e2, Nat.mul_zero]; omega
          have q1 := HE.out.cell (i := p) (by omega)
          rw [hp, ← ho, ← hp] at q1
          have q2 : wv.cell? ⟨ba, oa + k, none⟩ = some (.int .u32 (a : Int)) := by
            rw [hbi.cell (p := ⟨ba, oa + k, none⟩) hba, HX.out k (by have := HN.out; omega), digs_get, ← HA.out]
          have q3 : ∀ W, Below wv.heap.size wv W → Calls Tryz.prog 115 #[.slice B m cb, .int .i64 (q : Int)] W fun e w' => e = .returned (.int .u64 (b : Int)) ∧ Below W.heap.size W w' := fun W hW => by
            have h := at_dr ((HY.out.keep hbi).keep hW) (q : Int) (by omega)
            rw [Int.toNat_natCast, ← hb] at h
            exact calls_below0 h
          have f2 : Hid (∀ W, Below wv.heap.size wv W → W.cell? ⟨w.heap.size, p, none⟩ = some (.int .u32 (o : Int)) ∧ W.frozen? ⟨w.heap.size, p, none⟩ = false ∧ Dk W w.heap.size P) := fun W hW => by
            have h := HE.out.keep hW
            exact ⟨by rw [h.cell (by omega), hp, ← ho], h.free p, h⟩
          have w0 : IntKind.i64.wrap ((k : Int) + (q : Int)) = (p : Int) := by rw [Go.IntWalk.i64_in _ (by omega)]; omega
          have w1 : IntKind.u64.wrap (o : Int) = (o : Int) := by rw [IntKind.wrap_u64]; omega
          have w2 : IntKind.u64.wrap (a : Int) = (a : Int) := by rw [IntKind.wrap_u64]; omega
          have w3 : IntKind.u64.wrap ((cc : Int) + (o : Int)) = (cc : Int) + (o : Int) := by rw [IntKind.wrap_u64]; omega
          have w4 : IntKind.u64.wrap ((a : Int) * (b : Int)) = (pr : Int) := by rw [IntKind.wrap_u64, ← Int.natCast_mul, ← hpr]; omega
          have w5 : IntKind.u64.wrap ((cc : Int) + (o : Int) + (pr : Int)) = (s : Int) := by rw [IntKind.wrap_u64]; omega
          have b0 : (0 : Int) ≤ (p : Int) := by omega
          have b1 : (p : Int) < (N : Int) := by omega
          have b2 : (0 : Int) ≤ (k : Int) := by omega
          have b3 : (k : Int) < (n : Int) := by omega
          have t0 : ((p : Int)).toNat = p := Int.toNat_natCast p
          have t1 : ((k : Int)).toNat = k := Int.toNat_natCast k
          have hs2 : s < 18446744073709551616 := by omega
          have hsp : (k : Int) + (q : Int) = (p : Int) := by omega
          have HSP := Lib.hid hsp
          rw [← hp] at hNX
          have HSET := Lib.hid hNX
          have HCC := Lib.hid hC'
          clear hNX hC' hlast hb0 hs hpr ho hb hp HA sb ab hsp
          have hcase : (q < m) ∨ (¬ q < m ∧ 0 < cc) := by omega
          clear hgo
          rcases hcase with h2 | ⟨h2, h3⟩
          all_goals
            go_upto_region 9 with (fail)
            have g1 := cell_regrown q1
            have g2 := cell_regrown q2
            have cq0 := fun (d : Nat) (os : Array Obj) => Calls.regrown_of (w := wv) (d := d) (os := os) (q3 _ (below_regrown wv d os))
            refine wp_region_quiet_below (by kernel_rfl) (by kernel_rfl) ?_
            repeat (first | go_big_quiet_step ((first | (with_reducible exact cq0 _ _))) | quiet_step (first | (with_reducible exact cq0 _ _)))
            refine wpQuiet_nil ?_
            intro _ hw'
            obtain ⟨⟨dq, osq⟩, hw''⟩ := hw'
            subst hw''
            clear g1 g2 cq0
            have hb := below_regrown wv dq osq
            generalize grow (redrawn wv dq) osq = wq at *
            obtain ⟨r1, r2, r3⟩ := f2.out _ hb
            have hbq : Below w.heap.size w wq := btr hbi hb
            have HR := Lib.hid r3
            clear r3 hb f2 q1 q2 w0 w1 w2 w3 w4 w5
            have hsp := HSP.out
            go_wp2
            go_roundw
            case rel => exact ⟨q + 1, s / 4294967296, P.set p (s % 4294967296), by (congr 1), by go_num, by omega, HSET.out, HCC.out, HR.out.set p _ _ (by omega), bsc hbq (Nat.le_refl _) _⟩
            case measure => simp [intOf]; omega
        · have hq2 : ¬ q < m := by omega
          obtain rfl : cc = 0 := by omega
          have HO : Hid (MulOut x y N (k + 1) P) := HJ.out.stop (by have := HM.out; omega)
          clear hgo
          go_wp2
          go_roundw
          case rel => exact ⟨k + 1, P, by go_num, by omega, HO, HE, hbi⟩
          case measure => simp [intOf]; omega
    · have hv := HI.out.stop (by rw [← HN.out]; omega)
      have hl : O.length = N := HI.out.1
      have hrd := HD.out.rd (by rw [hl]; have := HNN.out; omega)
      rw [hl] at hrd
      have ht := trim_dr hrd HI.out.2.1
      rw [hv] at ht
      have HT := Lib.hid ht
      clear ht hv hl hrd
      go_wp2_with fail
      refine HT.out.mono ?_
      rintro e w1 ⟨s', rfl, hr, hw⟩
      rw [hw]; clear hw w1
      go_wp2
      go_ret
      exact ⟨s', rfl, hr, hbw⟩
end Go.Proofs.YtocffoemimghhaaGreatDoor
end
section
namespace Go.Proofs.YtocffoemimghhaaGreatDoor
open Go.RowKit Go.Shelf

theorem small_any (v : Nat) (hv : v < 18446744073709551616) (w : World) :
    Calls Tryz.prog 112 #[.int .u64 (v : Int)] w fun e w' => ∃ s', e = .returned s' ∧ Rd w' s' (digs v) ∧ Below w.heap.size w w' := by
  have hrow := heap_alloc_new w (.cells #[.int .u32 ((v : Int) % 4294967296), .int .u32 ((v : Int) / 4294967296)] 92)
  have hrd : Rd (w.alloc (.cells #[.int .u32 ((v : Int) % 4294967296), .int .u32 ((v : Int) / 4294967296)] 92)) (.slice (some ⟨w.heap.size, 0, none⟩) 2 2) [v % 4294967296, v / 4294967296] := by
    refine .inr ⟨w.heap.size, 0, 2, rfl, ⟨Nat.le_refl 2, by decide⟩, by simp, fun i hi => ?_⟩
    have : i = 0 ∨ i = 1 := by simp at hi; omega
    rcases this with rfl | rfl
    · exact cell_of_row _ w.heap.size 0 _ _ _ hrow
    · exact cell_of_row _ w.heap.size 1 _ _ _ hrow
  have hsm : Sm [v % 4294967296, v / 4294967296] := Sm.cons (by omega) (Sm.one (by omega))
  have hval : dval [v % 4294967296, v / 4294967296] = v := by simp only [dval]; omega
  have HR := Lib.hid hrd; have HV := Lib.hid hval; clear hrow hrd hval
  go_enter Tryz.func112, Tryz.ntmps112
  go_wp2_with fail
  (with_reducible refine (trim_any _ _ _ HR.out hsm).mono ?_)
  rintro e w1 ⟨s', rfl, hr, rfl⟩
  go_wp2
  go_ret
  exact ⟨s', rfl, by rw [HV.out] at hr; exact hr, bal (Below.refl _ _) _⟩
end Go.Proofs.YtocffoemimghhaaGreatDoor
end
section
namespace Go.Proofs.YtocffoemimghhaaGreatDoor
open Go.RowKit Go.Shelf

set_option maxHeartbeats 1000000 in
set_option maxRecDepth 100000 in
theorem rmul_zero (A B : Option Addr) (n ca m cb N : Nat) (h0 : n = 0) (hm1 : m ≤ 1000) (hN : N = n + m + 1) (w : World) :
    Calls Tryz.prog 75 #[.slice A n ca, .slice B m cb] w fun e w' => ∃ s', e = .returned s' ∧ DR w' s' 0 ∧ Below w.heap.size w w' := by
  have hmk := make_u32 N (by omega) ((n : Int) + (m : Int) + 1) (by omega)
  obtain ⟨M, hM⟩ : ∃ M, M = (U32s (List.replicate N 0)).toArray := ⟨_, rfl⟩
  rw [← hM] at hmk
  have hrd : Rd (w.alloc (.cells M 92)) (.slice (some ⟨w.heap.size, 0, none⟩) N N) (List.replicate N 0) := by
    rw [hM]
    have h := Dk.rd (Dk.new w (List.replicate N 0)) (by rw [List.length_replicate]; omega)
    rw [List.length_replicate] at h
    exact h
  have ht := trim_dr hrd (Sm.zeros N)
  rw [dval_zeros] at ht
  have hd : n ≤ 0 := by omega
  have hn9 : n ≤ 1000 := by omega
  have HT := Lib.hid ht; clear ht hrd hM h0 hN
  go_enter Tryz.func75, Tryz.ntmps75
  go_wp2
  refine wp_loop_rounds 1 ?_
  rw [rounds_succ]
  go_wp2_with fail
  refine HT.out.mono ?_
  rintro e w1 ⟨s', rfl, hr, hw⟩
  rw [hw]; clear hw w1
  go_wp2
  go_ret
  exact ⟨s', rfl, hr, bal (Below.refl _ _) _⟩
theorem rmul {s t : Value} {x y : Nat} {w : World} (hx : DR w s x) (hy : DR w t y) (lx : (digs x).length ≤ 1000) (ly : (digs y).length ≤ 1000) :
    Calls Tryz.prog 75 #[s, t] w fun e w' => ∃ s', e = .returned s' ∧ DR w' s' (x * y) ∧ Below w.heap.size w w' := by
  obtain ⟨B, cb, rfl, _⟩ := hy.form
  by_cases h0 : (digs x).length = 0
  · obtain ⟨A, ca, rfl, _⟩ := hx.form
    have hx0 : x = 0 := by have := digs_len.1 (show (digs x).length ≤ 0 by omega); simpa using this
    have hz := rmul_zero A B _ ca _ cb _ h0 ly rfl w
    rw [show x * y = 0 from by rw [hx0, Nat.zero_mul]]
    exact hz
  · rcases hx with ⟨h, _⟩ | ⟨b, off, c, rfl, hc, hlt, hcs⟩
    · rw [h] at h0; exact absurd rfl h0
    · exact rmul_core b off B _ c _ cb x y _ rfl rfl (by omega) lx ly rfl w hlt hcs hy
theorem rsmall (v : Nat) (hv : v < 18446744073709551616) (w : World) :
    Calls Tryz.prog 112 #[.int .u64 (v : Int)] w fun e w' => ∃ s', e = .returned s' ∧ DR w' s' v ∧ Below w.heap.size w w' := small_any v hv w
end Go.Proofs.YtocffoemimghhaaGreatDoor
end
section
namespace Go.Proofs.YtocffoemimghhaaGreatDoor
open Go.RowKit Go.Shelf
open Go.Sort (grow)

/-- How two numbers stand to each other. -/
def rcv (x y : Nat) : Int := if x < y then -1 else if y < x then 1 else 0
end Go.Proofs.YtocffoemimghhaaGreatDoor
end
section
namespace Go.Proofs.YtocffoemimghhaaGreatDoor
open Go.RowKit Go.Shelf

/-- A number's four words lie in a block. -/
def RowN (W : World) (g z : Nat) : Prop := Row4 W g (.int .u64 (lb 0 z)) (.int .u64 (lb 1 z)) (.int .u64 (lb 2 z)) (.int .u64 (lb 3 z))
theorem lb_nat (i z : Nat) : lb i z = ((z / 2 ^ (64 * i) % 18446744073709551616 : Nat) : Int) := by unfold lb; rfl
/-- One digit more turns one word. -/
theorem word_step {x k q r : Nat} (hq : q = k / 2) (hr : r = k % 2) : x % 2 ^ (32 * (k + 1)) / 2 ^ (64 * q) % 18446744073709551616 = x % 2 ^ (32 * k) / 2 ^ (64 * q) % 18446744073709551616 + (x / 2 ^ (32 * k) % 4294967296) * 2 ^ (32 * r) := by
  rw [mod_step]
  have hk : 32 * k = 64 * q + 32 * r := by omega
  have hr2 : r = 0 ∨ r = 1 := by omega
  have hd : x / 2 ^ (32 * k) % 4294967296 < 4294967296 := Nat.mod_lt _ (by decide)
  have hz : x % 2 ^ (32 * k) < 2 ^ (32 * k) := Nat.mod_lt _ (Nat.two_pow_pos _)
  generalize x / 2 ^ (32 * k) % 4294967296 = d at *
  generalize x % 2 ^ (32 * k) = z at *
  rw [hk, Nat.pow_add] at hz ⊢
  have hp := Nat.two_pow_pos (64 * q)
  rw [Nat.mul_assoc, Nat.add_mul_div_left _ _ hp]
  have hz2 : z / 2 ^ (64 * q) < 2 ^ (32 * r) := Nat.div_lt_of_lt_mul hz
  generalize z / 2 ^ (64 * q) = y at *
  rcases hr2 with rfl | rfl
  · simp only [Nat.mul_zero, Nat.pow_zero, Nat.one_mul, Nat.mul_one] at *
    omega
  · have e : (2 : Nat) ^ (32 * 1) = 4294967296 := by decide
    rw [e] at *
    omega
theorem word_same {x k i : Nat} (hi : i ≠ k / 2) : x % 2 ^ (32 * (k + 1)) / 2 ^ (64 * i) % 18446744073709551616 = x % 2 ^ (32 * k) / 2 ^ (64 * i) % 18446744073709551616 := by
  rcases Nat.lt_or_ge i (k / 2) with h | h
  · rw [mod_step]
    generalize x / 2 ^ (32 * k) % 4294967296 = d
    have e : 2 ^ (32 * k) * d = 2 ^ (64 * i) * (18446744073709551616 * (2 ^ (32 * k - 64 * i - 64) * d)) := by
      rw [show (18446744073709551616 : Nat) = 2 ^ 64 from by decide, ← Nat.mul_assoc, ← Nat.mul_assoc, ← Nat.pow_add, ← Nat.pow_add]
      congr 2
      omega
    rw [e, Nat.add_mul_div_left _ _ (Nat.two_pow_pos _), Nat.add_mul_mod_self_left]
  · have h1 : x % 2 ^ (32 * (k + 1)) < 2 ^ (64 * i) := Nat.lt_of_lt_of_le (Nat.mod_lt _ (Nat.two_pow_pos _)) (Nat.pow_le_pow_right (by decide) (by omega))
    have h2 : x % 2 ^ (32 * k) < 2 ^ (64 * i) := Nat.lt_of_lt_of_le (Nat.mod_lt _ (Nat.two_pow_pos _)) (Nat.pow_le_pow_right (by decide) (by omega))
    rw [Nat.div_eq_of_lt h1, Nat.div_eq_of_lt h2]
theorem RowN.set {W : World} {g x k : Nat} (h : RowN W g (x % 2 ^ (32 * k))) (hk : k < 8) (z : Int) (e : z = lb (k / 2) (x % 2 ^ (32 * (k + 1)))) : RowN (W.setCell ⟨g, k / 2, none⟩ (.int .u64 z)) g (x % 2 ^ (32 * (k + 1))) := by
  have hs : ∀ i, i ≠ k / 2 → lb i (x % 2 ^ (32 * k)) = lb i (x % 2 ^ (32 * (k + 1))) := fun i hi => by rw [lb_nat, lb_nat, word_same hi]
  unfold RowN Row4 at *
  rw [heap_setCell_same W g (k / 2) _ _ _ h, e]
  have hq : k / 2 = 0 ∨ k / 2 = 1 ∨ k / 2 = 2 ∨ k / 2 = 3 := by omega
  rcases hq with hq | hq | hq | hq
  · rw [hq, hs 1 (by omega), hs 2 (by omega), hs 3 (by omega)]; rfl
  · rw [hq, hs 0 (by omega), hs 2 (by omega), hs 3 (by omega)]; rfl
  · rw [hq, hs 0 (by omega), hs 1 (by omega), hs 3 (by omega)]; rfl
  · rw [hq, hs 0 (by omega), hs 1 (by omega), hs 2 (by omega)]; rfl
theorem RowN.free {W : World} {g z : Nat} (h : RowN W g z) (i : Nat) : W.frozen? ⟨g, i, none⟩ = false := frozen_of_row W g i _ _ h
theorem RowN.zero (W : World) (g : Nat) (h : Row4 W g (.int .u64 0) (.int .u64 0) (.int .u64 0) (.int .u64 0)) : RowN W g 0 := by
  unfold RowN
  rw [lb_zero, lb_zero, lb_zero, lb_zero]
  exact h

set_option maxHeartbeats 1000000 in
set_option maxRecDepth 100000 in
theorem rnat_core (s : Value) (b off n c x : Nat) (hn : n = (digs x).length) (hn8 : n ≤ 8) (hn0 : 0 < n) (w : World) (hb : b < w.heap.size) (hcs : Cs w b off (digs x))
    (k1 : ∀ W, Below w.heap.size w W → Calls Tryz.prog 110 #[s] W fun e w' => e = .returned (.slice (some ⟨b, off, none⟩) n c) ∧ w' = W) :
    Calls Tryz.prog 177 #[s] w fun e w' => e = .returned (.tuple #[N4 x, .bool true]) ∧ Below w.heap.size w w' := by
  have HN := Lib.hid hn; have HC := Lib.hid hcs; have K1 := Lib.hid k1; clear hn hcs k1
  go_enter Tryz.func177, Tryz.ntmps177
  go_wp2_with fail
  refine (K1.out _ (by repeat (first | (with_reducible exact Below.refl _ _) | (with_reducible refine bal ?_ _) | (with_reducible refine Below.drew ?_) | (with_reducible refine bdn ?_ _)))).mono ?_
  rintro e w1 ⟨rfl, hw⟩
  rw [hw]; clear hw w1
  go_wp2_with fail
  refine (K1.out _ (by repeat (first | (with_reducible exact Below.refl _ _) | (with_reducible refine bal ?_ _) | (with_reducible refine Below.drew ?_) | (with_reducible refine bdn ?_ _)))).mono ?_
  rintro e w1 ⟨rfl, hw⟩
  rw [hw]; clear hw w1
  go_wp2
  go_loopw [6] (fun i wr => ∃ k : Nat, i = .int .i64 (k : Int) ∧ k ≤ n ∧ Hid (RowN wr (w.heap.size + 1) (x % 2 ^ (32 * k))) ∧ Hid (RowN wr w.heap.size 0) ∧ Below w.heap.size w wr)
    (fun i _ => n - (intOf i).toNat)
  case atStart =>
    refine ⟨0, rfl, by omega, ?_, ?_, bal (bal (Below.refl _ _) _) _⟩
    · show RowN _ _ _
      rw [Nat.mul_zero, Nat.pow_zero, Nat.mod_one]
      exact RowN.zero _ _ (by first | exact Row4.new' _ (by simp) _ _ _ _)
    · exact RowN.zero _ _ (Row4.alloc (Row4.new w _ _ _ _) _)
  case round =>
    obtain ⟨k, rfl, hk, HR, HZ, hbw⟩ := hrel
    by_cases h1 : k < n
    · obtain ⟨q, hq⟩ : ∃ q, q = k / 2 := ⟨_, rfl⟩
      obtain ⟨r, hr⟩ : ∃ r, r = k % 2 := ⟨_, rfl⟩
      obtain ⟨d, hd⟩ : ∃ d, d = x / 2 ^ (32 * k) % 4294967296 := ⟨_, rfl⟩
      obtain ⟨o, ho⟩ : ∃ o, o = x % 2 ^ (32 * k) / 2 ^ (64 * q) % 18446744073709551616 := ⟨_, rfl⟩
      obtain ⟨v, hv⟩ : ∃ v, v = d * 2 ^ (32 * r) := ⟨_, rfl⟩
      have hst := word_step (x := x) hq hr
      rw [← hd, ← ho, ← hv] at hst
      have hd1 : d < 4294967296 := by omega
      have ho1 : o < 18446744073709551616 := by omega
      have hr2 : r = 0 ∨ r = 1 := by omega
      have hz2 : o < 2 ^ (32 * r) := by
        have hz : x % 2 ^ (32 * k) < 2 ^ (32 * k) := Nat.mod_lt _ (Nat.two_pow_pos _)
        rw [show 32 * k = 64 * q + 32 * r from by omega, Nat.pow_add] at hz
        have := Nat.div_lt_of_lt_mul hz
        rw [ho]
        rw [show 32 * k = 64 * q + 32 * r from by omega, Nat.pow_add]
        exact Nat.lt_of_le_of_lt (Nat.mod_le _ _) this
      have hv1 : v < 18446744073709551616 := by
        rcases hr2 with h | h <;> rw [hv, h]
        · omega
        · rw [show 2 ^ (32 * 1) = 4294967296 from by decide]; omega
      have hov : bits .or .u64 (o : Int) (v : Int) = ((o + v : Nat) : Int) := by
        rw [u64_or_nat o v ho1 hv1]
        congr 1
        rw [hv, Nat.or_comm, Nat.mul_comm, ← Nat.two_pow_add_eq_or_of_lt hz2, Nat.add_comm]
      have hnew : o + v < 18446744073709551616 := by
        rcases hr2 with h | h <;> rw [h] at hz2 hv
        · simp at hz2; omega
        · rw [show 2 ^ (32 * 1) = 4294967296 from by decide] at hz2 hv; omega
      have q1 : wr.cell? ⟨b, off + k, none⟩ = some (.int .u32 (d : Int)) := by
        rw [hbw.cell (p := ⟨b, off + k, none⟩) hb, HC.out k (by have := HN.out; omega), digs_get, ← hd]
      have q2 : wr.cell? ⟨w.heap.size + 1, q, none⟩ = some (.int .u64 (o : Int)) := by
        have := HR.out.at q (by omega)
        rw [← ho] at this
        exact this
      have q3 : wr.frozen? ⟨w.heap.size + 1, q, none⟩ = false := HR.out.free q
      have HS : Hid (RowN (wr.setCell ⟨w.heap.size + 1, q, none⟩ (.int .u64 ((o + v : Nat) : Int))) (w.heap.size + 1) (x % 2 ^ (32 * (k + 1)))) := by
        show RowN _ _ _
        rw [hq]
        refine RowN.set HR.out (by omega) _ ?_
        rw [lb_nat, ← hq, hst]
      have HZ2 : ∀ z, Hid (RowN (wr.setCell ⟨w.heap.size + 1, q, none⟩ z) w.heap.size 0) := fun z => Row4.set HZ.out (by omega) z
      have e1 : ((k : Int)).tdiv 2 = (q : Int) := by rw [Int.tdiv_eq_ediv_of_nonneg (by omega)]; omega
      have e2 : (k : Int) / 2 = (q : Int) := by omega
      have e3 : ((k : Int)).tmod 2 = (r : Int) := by rw [Int.tmod_eq_emod_of_nonneg (by omega)]; omega
      have e4 : (k : Int) % 2 = (r : Int) := by omega
      have e5 : IntKind.i64.wrap (32 * (r : Int)) = 32 * (r : Int) := Go.IntWalk.i64_in _ (by omega)
      have e6 : IntKind.u64.wrap (32 * (r : Int)) = 32 * (r : Int) := by rw [IntKind.wrap_u64]; omega
      have e7 : IntKind.u64.wrap ((d : Int) * 2 ^ (32 * (r : Int)).toNat) = (v : Int) := by
        rw [show (32 * (r : Int)).toNat = 32 * r from by omega, wrap_mul_pow, ← hv]
        omega
      have e8 : IntKind.u64.wrap (d : Int) = (d : Int) := by rw [IntKind.wrap_u64]; omega
      have b0 : (0 : Int) ≤ (k : Int) := by omega
      have b1 : (k : Int) < (n : Int) := by omega
      have b2 : (0 : Int) ≤ (q : Int) := by omega
      have b3 : (q : Int) < 4 := by omega
      have b4 : (0 : Int) ≤ 32 * (r : Int) := by omega
      have b5 : 32 * (r : Int) ≤ 64 := by omega
      have t1 : ((k : Int)).toNat = k := Int.toNat_natCast k
      have t2 : ((q : Int)).toNat = q := Int.toNat_natCast q
      clear hst hz2 hv1 hnew hd ho hv hq hr hr2
      go_upto_region 8 with (fail)
      go_region
      clear e1 e2 e3 e4 e5 e6 e7 e8 q1 q2 q3 hov
      go_wp2
      go_roundw
      case rel => exact ⟨k + 1, by go_num, by omega, by first | exact HS | exact Row4.drew HS | exact Row4.drewN HS _, by first | exact HZ2 _ | exact Row4.drew (HZ2 _) | exact Row4.drewN (HZ2 _) _, by repeat (first | (with_reducible exact hbw) | (with_reducible refine Below.drew ?_) | (with_reducible refine bdn ?_ _) | ((with_reducible refine bsc ?_ ?_ _); rotate_left; (focus (simp only []; omega))))⟩
      case measure => simp [intOf]; omega
    · obtain rfl : k = n := by omega
      have hx : x % 2 ^ (32 * k) = x := Nat.mod_eq_of_lt (digs_len.1 (by have := HN.out; omega))
      have HR2 : RowN wr (w.heap.size + 1) x := by have := HR.out; rw [hx] at this; exact this
      have HZ2 : Row4 wr w.heap.size (.int .u64 (lb 0 0)) (.int .u64 (lb 1 0)) (.int .u64 (lb 2 0)) (.int .u64 (lb 3 0)) := HZ.out
      obtain ⟨c0, c1, c2, c3⟩ := Row4.four HR2
      obtain ⟨z0, z1, z2, z3⟩ := Row4.four HZ2
      obtain ⟨f0, f1, f2, f3⟩ := Row4.free4 HZ2
      clear hx
      go_wp2
      exact bodyPost_ret (v := .tuple #[N4 x, .bool true]) (by simp [results, Tryz.results177, go_sem, z0, z1, z2, z3]) rfl ⟨rfl, by repeat (first | (with_reducible exact hbw) | (with_reducible refine Below.drew ?_) | (with_reducible refine bdn ?_ _) | ((with_reducible refine bsc ?_ ?_ _); rotate_left; (focus (simp only []; omega))))⟩
set_option maxHeartbeats 1000000 in
set_option maxRecDepth 100000 in
theorem rnat_over (s : Value) (A : Option Addr) (n c : Nat) (hn : 8 < n) (w : World)
    (k1 : ∀ W, Below w.heap.size w W → Calls Tryz.prog 110 #[s] W fun e w' => e = .returned (.slice A n c) ∧ w' = W) :
    Calls Tryz.prog 177 #[s] w fun e w' => e = .returned (.tuple #[N4 0, .bool false]) ∧ Below w.heap.size w w' := by
  have K1 := Lib.hid k1; clear k1
  go_enter Tryz.func177, Tryz.ntmps177
  go_wp2_with fail
  refine (K1.out _ (by repeat (first | (with_reducible exact Below.refl _ _) | (with_reducible refine bal ?_ _) | (with_reducible refine Below.drew ?_) | (with_reducible refine bdn ?_ _)))).mono ?_
  rintro e w1 ⟨rfl, hw⟩
  rw [hw]; clear hw w1
  go_wp2
  exact bodyPost_ret (v := .tuple #[N4 0, .bool false]) (by simp [results, Tryz.results177, go_sem, N4, lb_zero]) rfl ⟨rfl, by repeat (first | (with_reducible exact Below.refl _ _) | (with_reducible refine bal ?_ _) | (with_reducible refine Below.drew ?_) | (with_reducible refine bdn ?_ _) | ((with_reducible refine bsc ?_ ?_ _); rotate_left; (focus (simp only []; omega))))⟩
set_option maxHeartbeats 1000000 in
set_option maxRecDepth 100000 in
theorem rnat_zero (s : Value) (A : Option Addr) (c : Nat) (w : World)
    (k1 : ∀ W, Below w.heap.size w W → Calls Tryz.prog 110 #[s] W fun e w' => e = .returned (.slice A 0 c) ∧ w' = W) :
    Calls Tryz.prog 177 #[s] w fun e w' => e = .returned (.tuple #[N4 0, .bool true]) ∧ Below w.heap.size w w' := by
  have K1 := Lib.hid k1; clear k1
  go_enter Tryz.func177, Tryz.ntmps177
  go_wp2_with fail
  refine (K1.out _ (by repeat (first | (with_reducible exact Below.refl _ _) | (with_reducible refine bal ?_ _) | (with_reducible refine Below.drew ?_) | (with_reducible refine bdn ?_ _)))).mono ?_
  rintro e w1 ⟨rfl, hw⟩
  rw [hw]; clear hw w1
  go_wp2_with fail
  refine (K1.out _ (by repeat (first | (with_reducible exact Below.refl _ _) | (with_reducible refine bal ?_ _) | (with_reducible refine Below.drew ?_) | (with_reducible refine bdn ?_ _)))).mono ?_
  rintro e w1 ⟨rfl, hw⟩
  rw [hw]; clear hw w1
  go_wp2
  refine wp_loop_rounds 1 ?_
  rw [rounds_succ]
  go_wp2
  exact bodyPost_ret (v := .tuple #[N4 0, .bool true]) (by simp [results, Tryz.results177, go_sem, N4, lb_zero]) rfl ⟨rfl, by repeat (first | (with_reducible exact Below.refl _ _) | (with_reducible refine bal ?_ _) | (with_reducible refine Below.drew ?_) | (with_reducible refine bdn ?_ _) | ((with_reducible refine bsc ?_ ?_ _); rotate_left; (focus (simp only []; omega))))⟩
theorem trim_keep {s : Value} {x : Nat} {w : World} (h : DR w s x) : ∃ s', DR w s' x ∧ ∀ W, Below w.heap.size w W → Calls Tryz.prog 110 #[s] W fun e w' => e = .returned s' ∧ w' = W := by
  rcases h with ⟨h, A, c, rfl⟩ | ⟨b, off, c, rfl, hc, hlt, hcs⟩
  · exact ⟨_, .inl ⟨h, A, c, rfl⟩, fun W _ => trim_nil A c W⟩
  · refine ⟨.slice (some ⟨b, off, none⟩) (digs x).length c, .inr ⟨b, off, c, rfl, hc, hlt, hcs⟩, fun W hW => ?_⟩
    have := trim_some b off c (digs x) hc.1 hc.2 W (hcs.keep hW hlt) (digs_sm x)
    rw [dval_digs] at this
    exact this
theorem rnat {s : Value} {x : Nat} {w : World} (hx : DR w s x) :
    Calls Tryz.prog 177 #[s] w fun e w' => e = .returned (if x < 2 ^ 256 then .tuple #[N4 x, .bool true] else .tuple #[N4 0, .bool false]) ∧ Below w.heap.size w w' := by
  obtain ⟨s', h1, k1⟩ := trim_keep hx
  have hl := digs_len (x := x) (k := 8)
  by_cases h8 : (digs x).length ≤ 8
  · rw [if_pos (hl.1 h8)]
    rcases h1 with ⟨h, A, c, rfl⟩ | ⟨b, off, c, rfl, hc, hlt, hcs⟩
    · have x0 : x = 0 := by have := digs_len.1 (show (digs x).length ≤ 0 by rw [h]; exact Nat.le_refl _); simpa using this
      subst x0
      exact rnat_zero s A c w k1
    · by_cases h0 : (digs x).length = 0
      · have x0 : x = 0 := by have := digs_len.1 (show (digs x).length ≤ 0 by omega); simpa using this
        subst x0
        rw [h0] at k1
        exact rnat_zero s _ c w k1
      · exact rnat_core s b off _ c x rfl h8 (by omega) w hlt hcs k1
  · rw [if_neg (fun h => h8 (hl.2 h))]
    obtain ⟨A, c, rfl, _⟩ := h1.form
    exact rnat_over s A _ c (by omega) w k1
end Go.Proofs.YtocffoemimghhaaGreatDoor
end
section
namespace Go.Proofs.YtocffoemimghhaaGreatDoor
open Go.RowKit Go.Shelf

/-- A bit of a number; none at a place below 0. -/
def bitv (x : Nat) (i : Int) : Bool := decide (0 ≤ i) && x.testBit i.toNat
theorem rbit_neg (A : Option Addr) (n c : Nat) (i : Int) (h : i < 0) (w : World) :
    Calls Tryz.prog 114 #[.slice A n c, .int .i64 i] w fun e w' => e = .returned (.bool false) ∧ w' = w := by
  go_enter Tryz.func114, Tryz.ntmps114
  go_wp2
  go_ret
  exact ⟨rfl, rfl⟩
set_option maxRecDepth 100000 in
theorem rbit_out (A : Option Addr) (n c : Nat) (i : Int) (q : Int) (h0 : 0 ≤ i) (h1 : i ≤ 9223372036854775807) (hq : i / 32 = q) (h : (n : Int) ≤ q) (w : World) :
    Calls Tryz.prog 114 #[.slice A n c, .int .i64 i] w fun e w' => e = .returned (.bool false) ∧ w' = w := by
  go_enter Tryz.func114, Tryz.ntmps114
  go_wp2
  go_ret
  exact ⟨rfl, rfl⟩
set_option maxRecDepth 100000 in
theorem rbit_in (b off n c q r : Nat) (i d e : Int) (h0 : 0 ≤ i) (h1 : i ≤ 9223372036854775807) (hq : i / 32 = (q : Int)) (hr : i % 32 = (r : Int)) (h : q < n) (w : World) (hc : w.cell? ⟨b, off + q, none⟩ = some (.int .u32 d)) (he : bits .and .u32 (d / 2 ^ r) 1 = e) :
    Calls Tryz.prog 114 #[.slice (some ⟨b, off, none⟩) n c, .int .i64 i] w fun e' w' => e' = .returned (.bool (e == 1)) ∧ w' = w := by
  have b0 : (0 : Int) ≤ (q : Int) := by omega
  have b1 : (q : Int) < (n : Int) := by omega
  have b2 : (0 : Int) ≤ (r : Int) := by omega
  have b3 : (r : Int) ≤ 32 := by omega
  have t1 : ((q : Int)).toNat = q := Int.toNat_natCast q
  have t2 : ((r : Int)).toNat = r := Int.toNat_natCast r
  go_enter Tryz.func114, Tryz.ntmps114
  go_wp2
  go_ret
  exact ⟨rfl, rfl⟩
theorem big_bit {x i : Nat} (h : x < 2 ^ i) : x.testBit i = false := Nat.testBit_lt_two_pow h
theorem rbit {s : Value} {x : Nat} {w : World} (h : DR w s x) (i : Int) (hi : i ≤ 9223372036854775807) :
    Calls Tryz.prog 114 #[s, .int .i64 i] w fun e w' => e = .returned (.bool (bitv x i)) ∧ w' = w := by
  unfold bitv
  by_cases h0 : i < 0
  · obtain ⟨A, c, rfl, _⟩ := h.form
    rw [decide_eq_false (by omega), Bool.false_and]
    exact rbit_neg A _ c i h0 w
  · rw [decide_eq_true (by omega), Bool.true_and]
    obtain ⟨k, rfl⟩ := Int.eq_ofNat_of_zero_le (Int.not_lt.1 h0)
    rw [Int.toNat_natCast]
    by_cases hl : (digs x).length ≤ k / 32
    · obtain ⟨A, c, rfl, _⟩ := h.form
      have hx := digs_len.1 hl
      have : x < 2 ^ k := Nat.lt_of_lt_of_le hx (Nat.pow_le_pow_right (by decide) (by omega))
      rw [big_bit this]
      exact rbit_out A _ c k ((k / 32 : Nat) : Int) (by omega) hi (by omega) (by omega) w
    · rcases h with ⟨hn, A, c, rfl⟩ | ⟨b, off, c, rfl, hc, hlt, hcs⟩
      · rw [hn] at hl; exact absurd (Nat.zero_le _) hl
      · have hcell := hcs (k / 32) (by omega)
        rw [digs_get] at hcell
        have hd : x / 2 ^ (32 * (k / 32)) % 4294967296 < 4294967296 := Nat.mod_lt _ (by decide)
        have hbit : (x / 2 ^ (32 * (k / 32)) % 4294967296).testBit (k % 32) = x.testBit k := by
          rw [show (4294967296 : Nat) = 2 ^ 32 from by decide, Nat.testBit_mod_two_pow, decide_eq_true (show k % 32 < 32 by omega), Bool.true_and, Nat.testBit_div_two_pow]
          congr 1
          omega
        generalize x / 2 ^ (32 * (k / 32)) % 4294967296 = d at *
        have he : bits .and .u32 ((d : Int) / 2 ^ (k % 32)) 1 = ((d / 2 ^ (k % 32) % 2 : Nat) : Int) := by
          have h1 := u32_and_nat (d / 2 ^ (k % 32)) 1 (Nat.lt_of_le_of_lt (Nat.div_le_self _ _) hd) (by decide)
          rw [nat_mask1] at h1
          rw [← h1, Int.natCast_ediv, Int.natCast_pow]; rfl
        refine (rbit_in b off _ c (k / 32) (k % 32) k _ _ (by omega) hi (by omega) (by omega) (by omega) w hcell he).mono ?_
        rintro e' w' ⟨rfl, hw⟩
        refine ⟨?_, hw⟩
        congr 2
        rw [← hbit, Nat.testBit_eq_decide_div_mod_eq, Bool.eq_iff_iff, beq_iff_eq, decide_eq_true_eq]
        omega
theorem top_bit {x k : Nat} (h : x < 2 ^ (k + 1)) (hb : x.testBit k = false) : x < 2 ^ k := by
  rw [Nat.testBit_eq_decide_div_mod_eq, decide_eq_false_iff_not] at hb
  have h2 : x / 2 ^ k < 2 := Nat.div_lt_of_lt_mul (by rw [← Nat.pow_succ]; exact h)
  have h3 : x / 2 ^ k = 0 := by
    generalize x / 2 ^ k = q at hb h2
    omega
  exact (Nat.div_eq_zero_iff_lt (Nat.two_pow_pos k)).1 h3
theorem set_bit {x k : Nat} (hb : x.testBit k = true) : 2 ^ k ≤ x := by
  apply Decidable.byContradiction
  intro h
  rw [big_bit (by omega)] at hb
  cases hb
set_option maxHeartbeats 1000000 in
set_option maxRecDepth 100000 in
theorem rlen_core (A : Option Addr) (n c x : Nat) (hn : n = (digs x).length) (hn1 : n ≤ 1000) (w : World) (h : DR w (.slice A n c) x) :
    Calls Tryz.prog 108 #[.slice A n c] w fun e w' => e = .returned (.int .i64 (blen x)) ∧ w' = w := by
  have HN := Lib.hid hn; have HX := Lib.hid h; clear hn h
  go_enter Tryz.func108, Tryz.ntmps108
  go_wp2
  go_loop [3] (fun v => ∃ k : Nat, v = .int .i64 (k : Int) ∧ k ≤ 32 * n ∧ Hid (x < 2 ^ k)) (fun v => (intOf v).toNat)
  case atStart => exact ⟨32 * n, by (congr 1; omega), Nat.le_refl _, digs_len.1 (Nat.le_of_eq HN.out.symm)⟩
  case round =>
    obtain ⟨k, rfl, hk, HI⟩ := hrel
    by_cases h0 : k = 0
    · subst h0
      have hb : blen x = 0 := by
        have := HI.out
        simp at this
        subst this
        rfl
      have HB := Lib.hid hb; clear hb
      go_wp2
      go_ret
      exact ⟨by rw [HB.out]; rfl, rfl⟩
    · obtain ⟨j, rfl⟩ : ∃ j, k = j + 1 := ⟨k - 1, by omega⟩
      have hc := rbit HX.out (j : Int) (by omega)
      have e1 : bitv x (j : Int) = x.testBit j := by
        unfold bitv
        rw [decide_eq_true (by omega), Bool.true_and, Int.toNat_natCast]
      rw [e1] at hc
      clear h0 e1
      cases hb : x.testBit j with
      | false =>
        rw [hb] at hc
        have HT : Hid (x < 2 ^ j) := top_bit HI.out hb
        have HC := Lib.hid hc; clear hc hb
        have hp : 0 < j + 1 := by omega
        go_wp2_with fail
        (with_reducible refine HC.out.mono ?_)
        rintro e w1 ⟨rfl, hw⟩
        rw [hw]; clear hw w1
        go_wp2
        go_round
        case rel => exact ⟨j, by go_num, by omega, HT⟩
        case measure => simp [intOf]
      | true =>
        rw [hb] at hc
        have hbl : blen x = j + 1 := blen_unique (by omega) (by rw [Nat.add_sub_cancel]; exact set_bit hb) HI.out
        have HL := Lib.hid hbl
        have HC := Lib.hid hc; clear hc hb hbl
        have hp : 0 < j + 1 := by omega
        go_wp2_with fail
        (with_reducible refine HC.out.mono ?_)
        rintro e w1 ⟨rfl, hw⟩
        rw [hw]; clear hw w1
        go_wp2
        go_ret
        exact ⟨by rw [HL.out]; rfl, rfl⟩
theorem rlen {s : Value} {x : Nat} {w : World} (h : DR w s x) (lx : (digs x).length ≤ 1000) :
    Calls Tryz.prog 108 #[s] w fun e w' => e = .returned (.int .i64 (blen x)) ∧ w' = w := by
  obtain ⟨A, c, rfl, _⟩ := h.form
  exact rlen_core A _ c x rfl lx w h
theorem low_bits {x k m j : Nat} (e : x = 2 ^ k * (2 * m + 1)) : (j < k → x.testBit j = false) ∧ x.testBit k = true := by
  constructor
  · intro h
    rw [e, Nat.testBit_two_pow_mul, decide_eq_false (by omega), Bool.false_and]
  · rw [e, Nat.testBit_two_pow_mul, decide_eq_true (Nat.le_refl _), Bool.true_and, Nat.sub_self, Nat.testBit_eq_decide_div_mod_eq]
    simp
set_option maxHeartbeats 1000000 in
set_option maxRecDepth 100000 in
theorem rtrail {s : Value} {x k m : Nat} {w : World} (h : DR w s x) (lx : (digs x).length ≤ 1000) (e : x = 2 ^ k * (2 * m + 1)) (hk : k ≤ 100000) :
    Calls Tryz.prog 109 #[s] w fun e w' => e = .returned (.int .i64 k) ∧ w' = w := by
  have hl := rlen h lx
  have hx : x ≠ 0 := by
    rw [e]
    have := Nat.mul_pos (Nat.two_pow_pos k) (show 0 < 2 * m + 1 by omega)
    omega
  obtain ⟨B, hB⟩ : ∃ B, B = blen x := ⟨_, rfl⟩
  have hB0 : ((B : Int) == 0) = false := by
    have := (blen_spec hx).1
    rw [beq_eq_false_iff_ne]; omega
  rw [← hB] at hl
  have HL := Lib.hid hl; have HE := Lib.hid e; have HX := Lib.hid h; clear hl e hx hB h
  go_enter Tryz.func109, Tryz.ntmps109
  go_wp2_with fail
  refine HL.out.mono ?_
  rintro e w1 ⟨rfl, hw⟩
  rw [hw]; clear hw w1
  go_wp2
  go_loop [3] (fun v => ∃ j : Nat, v = .int .i64 (j : Int) ∧ j ≤ k) (fun v => k - (intOf v).toNat)
  case atStart => exact ⟨0, rfl, Nat.zero_le _⟩
  case round =>
    obtain ⟨j, rfl, hj⟩ := hrel
    have hc := rbit HX.out (j : Int) (by omega)
    have e1 : bitv x (j : Int) = x.testBit j := by
      unfold bitv
      rw [decide_eq_true (by omega), Bool.true_and, Int.toNat_natCast]
    rw [e1] at hc
    clear e1
    by_cases h1 : j < k
    · rw [(low_bits (j := j) HE.out).1 h1] at hc
      have HC := Lib.hid hc; clear hc
      go_wp2_with fail
      (with_reducible refine HC.out.mono ?_)
      rintro e w1 ⟨rfl, hw⟩
      rw [hw]; clear hw w1
      go_wp2
      go_round
      case rel => exact ⟨j + 1, by go_num, by omega⟩
      case measure => simp [intOf]; omega
    · obtain rfl : j = k := by omega
      rw [(low_bits (j := j) HE.out).2] at hc
      have HC := Lib.hid hc; clear hc
      go_wp2_with fail
      (with_reducible refine HC.out.mono ?_)
      rintro e w1 ⟨rfl, hw⟩
      rw [hw]; clear hw w1
      go_wp2
      go_ret
      exact ⟨rfl, rfl⟩
end Go.Proofs.YtocffoemimghhaaGreatDoor
end
section
namespace Go.Proofs.YtocffoemimghhaaGreatDoor
open Go.RowKit Go.Shelf

theorem pow_digs (q r : Nat) (hr : r < 32) : digs (2 ^ (32 * q + r)) = (List.replicate (q + 1) 0).set q (2 ^ r) := by
  have hv : 2 ^ r < 4294967296 := by
    have : 2 ^ r < 2 ^ 32 := Nat.pow_lt_pow_right (by decide) hr
    exact this
  have hp := Nat.two_pow_pos r
  have e := dval_set (List.replicate (q + 1) 0) q (2 ^ r) (by simp)
  rw [dval_zeros, List.getD_eq_getElem?_getD, List.getElem?_replicate, if_pos (by omega)] at e
  simp only [Option.getD_some, Nat.mul_zero, Nat.add_zero, Nat.zero_add] at e
  rw [Nat.pow_add, ← e]
  refine digs_of_last ((Sm.zeros _).set _ hv) ?_
  intro d hd
  rw [List.getLast?_eq_getElem?] at hd
  simp at hd
  omega
set_option maxHeartbeats 1000000 in
set_option maxRecDepth 100000 in
theorem rpow_core (k q r v : Nat) (hq : (k : Int) / 32 = (q : Int)) (hr : (k : Int) % 32 = (r : Int)) (hk : k ≤ 30000) (hv : IntKind.u32.wrap (2 ^ r) = (v : Int)) (M : Array Value) (w : World)
    (hmk : ∀ W, (Instr.makeSlice 85 (.int .i64 ((q : Int) + 1)) (.int .i64 ((q : Int) + 1))).run Tryz.prog W = .ok (.slice (some ⟨W.heap.size, 0, none⟩) (q + 1) (q + 1)) (W.alloc (.cells M 92)))
    (c0 : (w.alloc (.cells M 92)).cell? ⟨w.heap.size, q, none⟩ = some (.int .u32 0)) (f0 : (w.alloc (.cells M 92)).frozen? ⟨w.heap.size, q, none⟩ = false) :
    Calls Tryz.prog 113 #[.int .i64 (k : Int)] w fun e w' => e = .returned (.slice (some ⟨w.heap.size, 0, none⟩) (q + 1) (q + 1)) ∧ w' = w.alloc (.cells (M.setIfInBounds q (.int .u32 (v : Int))) 92) := by
  have b0 : (0 : Int) ≤ (q : Int) := by omega
  have b1 : (q : Int) < ((q + 1 : Nat) : Int) := by omega
  have b2 : (0 : Int) ≤ (r : Int) := by omega
  have b3 : (r : Int) ≤ 32 := by omega
  have b4 : (q : Int) ≤ 1000 := by omega
  have t1 : ((q : Int)).toNat = q := Int.toNat_natCast q
  have t2 : ((r : Int)).toNat = r := Int.toNat_natCast r
  go_enter Tryz.func113, Tryz.ntmps113
  go_wp2
  go_ret
  exact ⟨rfl, rfl⟩
theorem rpow (k : Nat) (hk : k ≤ 30000) (w : World) :
    Calls Tryz.prog 113 #[.int .i64 (k : Int)] w fun e w' => ∃ s', e = .returned s' ∧ DR w' s' (2 ^ k) ∧ Below w.heap.size w w' := by
  have hr : k % 32 < 32 := Nat.mod_lt _ (by decide)
  have hv : 2 ^ (k % 32) < 4294967296 := by
    have : 2 ^ (k % 32) < 2 ^ 32 := Nat.pow_lt_pow_right (by decide) hr
    exact this
  have hD := Dk.new w (List.replicate (k / 32 + 1) 0)
  have c0 := hD.cell (i := k / 32) (by simp)
  have f0 := hD.free (k / 32)
  rw [List.getD_eq_getElem?_getD, List.getElem?_replicate, if_pos (by omega)] at c0
  have hmk := make_u32 (k / 32 + 1) (by omega) (((k / 32 : Nat) : Int) + 1) (by omega)
  have hw : IntKind.u32.wrap ((2 : Int) ^ (k % 32)) = ((2 ^ (k % 32) : Nat) : Int) := by
    rw [IntKind.wrap_u32']
    have : (2 : Int) ^ (k % 32) = ((2 ^ (k % 32) : Nat) : Int) := by rw [Int.natCast_pow]; rfl
    rw [this]
    generalize 2 ^ (k % 32) = P at hv
    omega
  refine (rpow_core k (k / 32) (k % 32) (2 ^ (k % 32)) (by omega) (by omega) hk hw _ w hmk c0 f0).mono ?_
  rintro e w' ⟨rfl, rfl⟩
  have hD2 : Dk (w.alloc (.cells ((U32s (List.replicate (k / 32 + 1) 0)).toArray.setIfInBounds (k / 32) (.int .u32 ((2 ^ (k % 32) : Nat) : Int))) 92)) w.heap.size ((List.replicate (k / 32 + 1) 0).set (k / 32) (2 ^ (k % 32))) := by
    have e : (U32s (List.replicate (k / 32 + 1) 0)).toArray.setIfInBounds (k / 32) (.int .u32 ((2 ^ (k % 32) : Nat) : Int)) = (U32s ((List.replicate (k / 32 + 1) 0).set (k / 32) (2 ^ (k % 32)))).toArray := by
      apply Array.ext'
      simp [U32s, List.map_set]
    rw [e]
    exact Dk.new w _
  have hrd := hD2.rd (by simp; omega)
  rw [List.length_set, List.length_replicate, ← pow_digs (k / 32) (k % 32) hr, show 32 * (k / 32) + k % 32 = k from by omega] at hrd
  exact ⟨_, rfl, hrd, bal (Below.refl _ _) _⟩
theorem pow_len {k : Nat} (hk : k ≤ 30000) : (digs (2 ^ k)).length ≤ 1000 := by
  have h := pow_digs (k / 32) (k % 32) (Nat.mod_lt _ (by decide))
  rw [show 32 * (k / 32) + k % 32 = k from by omega] at h
  rw [h, List.length_set, List.length_replicate]
  omega
set_option maxRecDepth 100000 in
theorem rshl {s : Value} {x : Nat} {w : World} (h : DR w s x) (lx : (digs x).length ≤ 1000) (k : Nat) (hk : k ≤ 30000) :
    Calls Tryz.prog 74 #[s, .int .i64 (k : Int)] w fun e w' => ∃ s', e = .returned s' ∧ DR w' s' (x * 2 ^ k) ∧ Below w.heap.size w w' := by
  have HX := Lib.hid h; have HL := Lib.hid lx; have HK := Lib.hid hk; clear h lx hk
  have b0 : (0 : Int) ≤ (k : Int) := by omega
  go_enter Tryz.func74, Tryz.ntmps74
  go_wp2_with fail
  refine (rpow k HK.out _).mono ?_
  rintro e w1 ⟨s1, rfl, hr, hb⟩
  have H1 := Lib.hid hr; have HB := Lib.hid hb; clear hr hb
  go_wp2_with fail
  refine (rmul (HX.out.keep HB.out) H1.out HL.out (pow_len HK.out)).mono ?_
  rintro e w2 ⟨s2, rfl, hr, hb⟩
  have hb2 := btr HB.out hb
  clear hb
  go_wp2
  go_ret
  exact ⟨s2, rfl, hr, hb2⟩
end Go.Proofs.YtocffoemimghhaaGreatDoor
end
section
namespace Go.Proofs.YtocffoemimghhaaGreatDoor
open Go.RowKit Go.Shelf

theorem own_blk {W : World} {base g n cap : Nat} {O : List Nat} (h : W.ownsRow base 92 1 (.slice (some ⟨g, 0, none⟩) n cap) n (U32s O)) (hn : 0 < n) :
    base ≤ g ∧ ∃ cur : Array Value, W.heap[g]? = some (.cells cur 92 (0, 0)) ∧ n ≤ cap ∧ cap ≤ maxLen ∧ cur.size = cap * 1 ∧ cur.toList.take (n * 1) = U32s O := by
  obtain ⟨_, h⟩ := h
  rcases h with ⟨_, h0⟩ | ⟨g2, cap2, cur, e, hb, hh, h1, h2, h3, h4⟩
  · omega
  · injection e with e1 e2 e3
    injection e1 with e1
    injection e1 with e1
    subst e1 e3
    exact ⟨hb, cur, hh, h1, h2, h3, h4⟩
theorem own_cell {W : World} {base g n cap : Nat} {O : List Nat} (h : W.ownsRow base 92 1 (.slice (some ⟨g, 0, none⟩) n cap) n (U32s O)) (hl : O.length = n) {i : Nat} (hi : i < n) :
    W.cell? ⟨g, i, none⟩ = some (.int .u32 ((O.getD i 0 : Nat) : Int)) ∧ W.frozen? ⟨g, i, none⟩ = false := by
  obtain ⟨_, cur, hh, _, _, _, h4⟩ := own_blk h (by omega)
  refine ⟨?_, frozen_of_row W g i _ _ hh⟩
  rw [cell_of_row W g i _ _ _ hh]
  have e := U32s_at (O := O) (i := i) (by omega)
  rw [← h4, Nat.mul_one, List.getElem?_take, if_pos hi] at e
  rw [← e]; simp
theorem own_set {W : World} {base g n cap : Nat} {O : List Nat} (h : W.ownsRow base 92 1 (.slice (some ⟨g, 0, none⟩) n cap) n (U32s O)) (hl : O.length = n) {i d : Nat} (hi : i < n) (z : Int) (e : (d : Int) = z) :
    (W.setCell ⟨g, i, none⟩ (.int .u32 z)).ownsRow base 92 1 (.slice (some ⟨g, 0, none⟩) n cap) n (U32s (O.set i d)) := by
  obtain ⟨hb, cur, hh, h1, h2, h3, h4⟩ := own_blk h (by omega)
  refine ⟨by simp [U32s, hl], .inr ⟨g, cap, cur.setIfInBounds i (.int .u32 z), rfl, hb, heap_setCell_same W g i _ _ _ hh, h1, h2, by simp [h3], ?_⟩⟩
  rw [Array.toList_setIfInBounds, List.take_set, h4, ← e]
  simp [U32s, List.map_set]
/-- What holds at the head of Shift's loop, t places on. -/
def ShrInv (y t : Nat) (O : List Nat) : Prop := O.length = (t + 31) / 32 ∧ Sm O ∧ dval O = y % 2 ^ t
theorem ShrInv.zero (y : Nat) : ShrInv y 0 [] := ⟨rfl, Sm.nil, by simp [dval, Nat.mod_one]⟩
theorem mod_bit (y t : Nat) : y % 2 ^ (t + 1) = y % 2 ^ t + 2 ^ t * (y / 2 ^ t % 2) := by rw [Nat.pow_succ, Nat.mod_mul]
theorem bit_mod {y t : Nat} : (y.testBit t = true → y / 2 ^ t % 2 = 1) ∧ (y.testBit t = false → y / 2 ^ t % 2 = 0) := by
  rw [Nat.testBit_eq_decide_div_mod_eq]
  constructor
  · intro h; exact of_decide_eq_true h
  · intro h; have := of_decide_eq_false h; omega
/-- A digit more, where one begins. -/
theorem ShrInv.more {y t : Nat} {O : List Nat} (h : ShrInv y t O) : (O ++ [0]).length = O.length + 1 ∧ Sm (O ++ [0]) ∧ dval (O ++ [0]) = y % 2 ^ t :=
  ⟨by simp, h.2.1.app (Sm.one (by decide)), by rw [trim_zero rfl]; exact h.2.2⟩
theorem shr_no {y t q : Nat} {P : List Nat} (hl : P.length = q + 1) (hq : q = t / 32) (hs : Sm P) (hv : dval P = y % 2 ^ t) (hb : y.testBit t = false) : ShrInv y (t + 1) P :=
  ⟨by omega, hs, by rw [mod_bit, bit_mod.2 hb, Nat.mul_zero, Nat.add_zero]; exact hv⟩
theorem shr_digit {y t q r : Nat} {P : List Nat} (hq : q = t / 32) (hr : r = t % 32) (hv : dval P = y % 2 ^ t) : P.getD q 0 < 2 ^ r := by
  have g := dval_ge P q
  have hm : y % 2 ^ t < 2 ^ t := Nat.mod_lt _ (Nat.two_pow_pos t)
  rw [hv] at g
  have e : 2 ^ t = 2 ^ (32 * q) * 2 ^ r := by rw [← Nat.pow_add]; congr 1; omega
  rw [e] at hm g
  exact Nat.lt_of_mul_lt_mul_left (Nat.lt_of_le_of_lt g hm)
theorem shr_yes {y t q r : Nat} {P : List Nat} (hl : P.length = q + 1) (hq : q = t / 32) (hr : r = t % 32) (hs : Sm P) (hv : dval P = y % 2 ^ t) (hb : y.testBit t = true) : ShrInv y (t + 1) (P.set q (P.getD q 0 + 2 ^ r)) := by
  have hd := shr_digit hq hr hv
  have h32 : 2 ^ r * 2 ≤ 4294967296 := by
    have : 2 ^ (r + 1) ≤ 2 ^ 32 := Nat.pow_le_pow_right (by decide) (by omega)
    rw [Nat.pow_succ] at this
    exact this
  refine ⟨by rw [List.length_set]; omega, hs.set _ (by omega), ?_⟩
  have e := dval_set P q (P.getD q 0 + 2 ^ r) (by omega)
  rw [mod_bit, bit_mod.1 hb, Nat.mul_one, ← hv]
  have e2 : 2 ^ t = 2 ^ (32 * q) * 2 ^ r := by rw [← Nat.pow_add]; congr 1; omega
  rw [e2]
  rw [Nat.mul_add] at e
  omega
theorem ShrInv.stop {y t : Nat} {O : List Nat} (h : ShrInv y t O) (hy : y < 2 ^ t) : dval O = y := by rw [h.2.2, Nat.mod_eq_of_lt hy]
theorem or_digit {d r : Nat} (hd : d < 2 ^ r) (hr : r < 32) : bits .or .u32 (d : Int) (IntKind.u32.wrap (2 ^ r)) = ((d + 2 ^ r : Nat) : Int) := by
  have h1 : 2 ^ r < 4294967296 := by
    have : 2 ^ r < 2 ^ 32 := Nat.pow_lt_pow_right (by decide) hr
    exact this
  have hw : IntKind.u32.wrap ((2 : Int) ^ r) = ((2 ^ r : Nat) : Int) := by
    rw [IntKind.wrap_u32']
    have : (2 : Int) ^ r = ((2 ^ r : Nat) : Int) := by rw [Int.natCast_pow]; rfl
    rw [this]
    generalize 2 ^ r = P at h1
    omega
  rw [hw, u32_or_nat d (2 ^ r) (by omega) h1]
  have h2 := Nat.two_pow_add_eq_or_of_lt (i := r) (b := d) hd 1
  rw [Nat.mul_one] at h2
  rw [Nat.or_comm, ← h2, Nat.add_comm]
set_option maxHeartbeats 2000000 in
set_option maxRecDepth 100000 in
theorem rshr_core (A : Option Addr) (n c x K : Nat) (hn : n = (digs x).length) (hn1 : n ≤ 1000) (hK0 : 0 < K) (hK : K ≤ 40000) (w : World) (h : DR w (.slice A n c) x) :
    Calls Tryz.prog 74 #[.slice A n c, .int .i64 (-(K : Int))] w fun e w' => ∃ s', e = .returned s' ∧ DR w' s' (x / 2 ^ K) ∧ Below w.heap.size w w' := by
  obtain ⟨i0, hi, hz0, hz1, hz2⟩ := info_parts info_u32
  obtain ⟨y, hy⟩ : ∃ y, y = x / 2 ^ K := ⟨_, rfl⟩
  rw [← hy]
  have HN := Lib.hid hn; have HX := Lib.hid h; have HY := Lib.hid hy; clear hn h hy
  have hneg : -(K : Int) < 0 := by omega
  have hd9 : decide (K = 0) = false := decide_eq_false (by omega)
  go_enter Tryz.func74, Tryz.ntmps74
  go_wp2
  go_loopw [5, 6] (fun v i wr => ∃ (t j : Nat) (O : List Nat) (A0 : Option Addr) (c0 : Nat), i = .int .i64 (j : Int) ∧ Hid (j = K + t) ∧ (t = 0 ∨ j ≤ 32 * n) ∧ v = .slice A0 O.length c0 ∧ Hid (ShrInv y t O) ∧ wr.ownsRow w.heap.size 92 1 (.slice A0 O.length c0) O.length (U32s O) ∧ Below w.heap.size w wr)
    (fun _ i _ => 32 * n - (intOf i).toNat)
  case atStart => exact ⟨0, K, [], none, 0, rfl, rfl, .inl rfl, rfl, ShrInv.zero y, World.ownsRow_nil _ _ _ _, Below.refl _ _⟩
  case round =>
    obtain ⟨t, i, O, A0, c0, rfl, HIE0, ht, rfl, HI, hown, hbw⟩ := hrel
    have hie : i = K + t := HIE0.out
    clear HIE0
    by_cases h1 : i < 32 * n
    · have hj : (i : Int) + -(K : Int) = (t : Int) := by omega
      obtain ⟨q, hq⟩ : ∃ q, q = t / 32 := ⟨_, rfl⟩
      obtain ⟨r, hr⟩ : ∃ r, r = t % 32 := ⟨_, rfl⟩
      have hq2 : (t : Int) / 32 = (q : Int) := by omega
      have hr2 : (t : Int) % 32 = (r : Int) := by omega
      have hq1000 : q ≤ 1000 := by omega
      have HC : Hid (∀ W, Below w.heap.size w W → Calls Tryz.prog 114 #[.slice A n c, .int .i64 (i : Int)] W fun e w' => e = .returned (.bool (y.testBit t)) ∧ w' = W) := fun W hW => by
        have hc := rbit (HX.out.keep hW) (i : Int) (by omega)
        have e1 : bitv x (i : Int) = y.testBit t := by
          unfold bitv
          rw [decide_eq_true (by omega), Bool.true_and, Int.toNat_natCast, HY.out, Nat.testBit_div_two_pow, hie, Nat.add_comm]
        rw [e1] at hc
        exact hc
      have hlen : O.length = (t + 31) / 32 := HI.out.1
      by_cases hr0 : r = 0
      · have hlq : O.length = q := by omega
        rw [hlq] at hown ⊢
        obtain ⟨m1, m2, m3⟩ := HI.out.more
        have HIE := Lib.hid hie; have HQ := Lib.hid hq; have HRR := Lib.hid hr; have HLQ := Lib.hid hlq; have HM := Lib.hid m3; have HM1 := Lib.hid m1
        clear hie hq hr hlq hlen m3 m1 hr0
        go_wp2
        refine wp_loop_rounds 2 ?_
        rw [rounds_succ]
        go_wp2_with (at_builtin; refine wpList_append_lies _ rfl (.tmp 31) (.tmp 32) 85 rfl w.heap.size 92 i0 (.int .u32 0) 1 4 und_d hi hz0 hz1 hz2 rfl (by decide) _ q _ rfl (hown.alloc _) ⟨wr.heap.size, 0, none⟩ 1 1 [.int .u32 0] rfl rfl (cell_new1 _ _ _) (one_new1 _ _) (by decide) (by unfold maxLen; omega) (by omega) (by simp; have := hbw.size; omega) _ rfl ?_; intro g cap w2 hown1 hgrow hat hlt)
        obtain ⟨P, hP⟩ : ∃ P, P = O ++ [0] := ⟨_, rfl⟩
        have own2 : w2.ownsRow w.heap.size 92 1 (.slice (some ⟨g, 0, none⟩) (q + 1) cap) (q + 1) (U32s P) := by
          rw [hP, U32s_snoc O 0 0 rfl]
          exact hown1
        have hb2 : Below w.heap.size w w2 := (hbw.alloc hbw.size _).grown hgrow (by simp; have := hbw.size; omega) (fun k hk => (hown.lt k hk).1)
        have hPl : P.length = q + 1 := by rw [hP, HM1.out, HLQ.out]
        have hPs : Sm P := by rw [hP]; exact m2
        have hPv := HM.out
        rw [← hP] at hPv
        have HPl := Lib.hid hPl; have HPv := Lib.hid hPv
        clear hown1 hgrow hown hat hlt m2 hP hPl hPv HM HM1
        rw [rounds_succ]
        have t1 : ((q : Int)).toNat = q := Int.toNat_natCast q
        have t2 : ((r : Int)).toNat = r := Int.toNat_natCast r
        have b0 : (0 : Int) ≤ (q : Int) := by omega
        have b1 : (q : Int) < ((q + 1 : Nat) : Int) := by omega
        have b2 : (0 : Int) ≤ (r : Int) := by omega
        have b3 : (r : Int) ≤ 32 := by have := HRR.out; omega
        cases hb : y.testBit t with
        | false =>
          have hNX := shr_no HPl.out HQ.out hPs HPv.out hb
          have HNX := Lib.hid hNX; have HC2 := Lib.hid (HC.out _ hb2)
          rw [hb] at HC2
          have HPL := HPl
          clear hNX hPs hb ht
          go_wp2_with fail
          (with_reducible refine HC2.out.mono ?_)
          rintro e w3 ⟨rfl, hw⟩
          rw [hw]; clear hw w3
          go_wp2
          go_roundw
          case rel => exact ⟨t + 1, i + 1, P, some ⟨g, 0, none⟩, cap, by go_num, (by show _ = _; have := HIE.out; omega), .inr (by omega), by rw [HPL.out], HNX.out, by rw [HPL.out]; exact own2, hb2⟩
          case measure => simp [intOf]; have := HIE.out; omega
        | true =>
          have hNX := shr_yes HPl.out HQ.out HRR.out hPs HPv.out hb
          obtain ⟨cq, fq⟩ := own_cell own2 HPl.out (i := q) (by omega)
          have hd := shr_digit HQ.out HRR.out HPv.out
          have ho := or_digit hd (show r < 32 by have := HRR.out; omega)
          have hs2 : ∀ z : Int, ((P.getD q 0 + 2 ^ r : Nat) : Int) = z → _ := fun z hz => own_set own2 HPl.out (i := q) (d := P.getD q 0 + 2 ^ r) (by omega) z hz
          obtain ⟨z, hz⟩ : ∃ z : Int, z = ((P.getD q 0 + 2 ^ r : Nat) : Int) := ⟨_, rfl⟩
          rw [← hz] at ho
          have ho2 := ho
          rw [IntKind.wrap_u32'] at ho2
          have own3 := hs2 z hz.symm
          have HNX := Lib.hid hNX; have HC2 := Lib.hid (HC.out _ hb2)
          rw [hb] at HC2
          have HO3 := Lib.hid own3
          have hPl2 : (P.set q (P.getD q 0 + 2 ^ r)).length = q + 1 := by rw [List.length_set]; exact HPl.out
          have HPL := Lib.hid hPl2
          have hgb := (own_blk own2 (by omega)).1
          generalize P.getD q 0 = d at *
          clear hNX hPs hb ht hd hs2 hz own3 hPl2 HPv HPl
          go_wp2_with fail
          (with_reducible refine HC2.out.mono ?_)
          rintro e w3 ⟨rfl, hw⟩
          rw [hw]; clear hw w3
          go_wp2
          go_roundw
          case rel => exact ⟨t + 1, i + 1, P.set q (d + 2 ^ r), some ⟨g, 0, none⟩, cap, by go_num, (by show _ = _; have := HIE.out; omega), .inr (by omega), by rw [HPL.out], HNX.out, by rw [HPL.out]; exact HO3.out, bsc hb2 hgb _⟩
          case measure => simp [intOf]; have := HIE.out; omega
      · have hlq : O.length = q + 1 := by omega
        obtain ⟨g, cap, hA, _, _⟩ := hown.form (by omega)
        injection hA with hA hA1 hA2
        subst hA hA2
        rw [hlq] at hown ⊢
        obtain ⟨P, hP⟩ : ∃ P, P = O := ⟨_, rfl⟩
        have own2 := hown
        rw [← hP] at own2
        have hb2 := hbw
        have hPl : P.length = q + 1 := by rw [hP]; exact hlq
        have hPs : Sm P := by rw [hP]; exact HI.out.2.1
        have hPv : dval P = y % 2 ^ t := by rw [hP]; exact HI.out.2.2
        have HIE := Lib.hid hie; have HQ := Lib.hid hq; have HRR := Lib.hid hr; have HPl := Lib.hid hPl; have HPv := Lib.hid hPv
        clear hlq hlen hown hbw hP hie hq hr hPl hPv hr0
        go_wp2
        refine wp_loop_rounds 1 ?_
        rw [rounds_succ]
        have t1 : ((q : Int)).toNat = q := Int.toNat_natCast q
        have t2 : ((r : Int)).toNat = r := Int.toNat_natCast r
        have b0 : (0 : Int) ≤ (q : Int) := by omega
        have b1 : (q : Int) < ((q + 1 : Nat) : Int) := by omega
        have b2 : (0 : Int) ≤ (r : Int) := by omega
        have b3 : (r : Int) ≤ 32 := by have := HRR.out; omega
        cases hb : y.testBit t with
        | false =>
          have hNX := shr_no HPl.out HQ.out hPs HPv.out hb
          have HNX := Lib.hid hNX; have HC2 := Lib.hid (HC.out _ hb2)
          rw [hb] at HC2
          have HPL := HPl
          clear hNX hPs hb ht
          go_wp2_with fail
          (with_reducible refine HC2.out.mono ?_)
          rintro e w3 ⟨rfl, hw⟩
          rw [hw]; clear hw w3
          go_wp2
          go_roundw
          case rel => exact ⟨t + 1, i + 1, P, some ⟨g, 0, none⟩, c0, by go_num, (by show _ = _; have := HIE.out; omega), .inr (by omega), by rw [HPL.out], HNX.out, by rw [HPL.out]; exact own2, hb2⟩
          case measure => simp [intOf]; have := HIE.out; omega
        | true =>
          have hNX := shr_yes HPl.out HQ.out HRR.out hPs HPv.out hb
          obtain ⟨cq, fq⟩ := own_cell own2 HPl.out (i := q) (by omega)
          have hd := shr_digit HQ.out HRR.out HPv.out
          have ho := or_digit hd (show r < 32 by have := HRR.out; omega)
          have hs2 : ∀ z : Int, ((P.getD q 0 + 2 ^ r : Nat) : Int) = z → _ := fun z hz => own_set own2 HPl.out (i := q) (d := P.getD q 0 + 2 ^ r) (by omega) z hz
          obtain ⟨z, hz⟩ : ∃ z : Int, z = ((P.getD q 0 + 2 ^ r : Nat) : Int) := ⟨_, rfl⟩
          rw [← hz] at ho
          have ho2 := ho
          rw [IntKind.wrap_u32'] at ho2
          have own3 := hs2 z hz.symm
          have HNX := Lib.hid hNX; have HC2 := Lib.hid (HC.out _ hb2)
          rw [hb] at HC2
          have HO3 := Lib.hid own3
          have hPl2 : (P.set q (P.getD q 0 + 2 ^ r)).length = q + 1 := by rw [List.length_set]; exact HPl.out
          have HPL := Lib.hid hPl2
          have hgb := (own_blk own2 (by omega)).1
          generalize P.getD q 0 = d at *
          clear hNX hPs hb ht hd hs2 hz own3 hPl2 HPv HPl
          go_wp2_with fail
          (with_reducible refine HC2.out.mono ?_)
          rintro e w3 ⟨rfl, hw⟩
          rw [hw]; clear hw w3
          go_wp2
          go_roundw
          case rel => exact ⟨t + 1, i + 1, P.set q (d + 2 ^ r), some ⟨g, 0, none⟩, c0, by go_num, (by show _ = _; have := HIE.out; omega), .inr (by omega), by rw [HPL.out], HNX.out, by rw [HPL.out]; exact HO3.out, bsc hb2 hgb _⟩
          case measure => simp [intOf]; have := HIE.out; omega
    · have hs : y < 2 ^ t := by
        rw [HY.out]
        have hx := digs_len.1 (Nat.le_of_eq HN.out.symm)
        apply Nat.div_lt_of_lt_mul
        rw [← Nat.pow_add]
        exact Nat.lt_of_lt_of_le hx (Nat.pow_le_pow_right (by decide) (by omega))
      have hv := HI.out.stop hs
      have hrd := rd_own (l := O) hown
      have htr := trim_dr hrd HI.out.2.1
      rw [hv] at htr
      have HT := Lib.hid htr
      clear htr hv hrd hs ht hie
      go_wp2_with fail
      (with_reducible refine HT.out.mono ?_)
      rintro e w1 ⟨s', rfl, hr, hw⟩
      rw [hw]; clear hw w1
      go_wp2
      go_ret
      exact ⟨s', rfl, hr, hbw⟩
theorem rshr {s : Value} {x : Nat} {w : World} (h : DR w s x) (lx : (digs x).length ≤ 1000) (K : Nat) (hK0 : 0 < K) (hK : K ≤ 40000) :
    Calls Tryz.prog 74 #[s, .int .i64 (-(K : Int))] w fun e w' => ∃ s', e = .returned s' ∧ DR w' s' (x / 2 ^ K) ∧ Below w.heap.size w w' := by
  obtain ⟨A, c, rfl, _⟩ := h.form
  exact rshr_core A _ c x K rfl lx hK0 hK w h
/-- A number by a power of two, of either sign. -/
def shv (x : Nat) (k : Int) : Nat := if 0 ≤ k then x * 2 ^ k.toNat else x / 2 ^ (-k).toNat
theorem rshift {s : Value} {x : Nat} {w : World} (h : DR w s x) (lx : (digs x).length ≤ 1000) (k : Int) (h0 : -30000 ≤ k) (h1 : k ≤ 30000) :
    Calls Tryz.prog 74 #[s, .int .i64 k] w fun e w' => ∃ s', e = .returned s' ∧ DR w' s' (shv x k) ∧ Below w.heap.size w w' := by
  unfold shv
  by_cases hk : 0 ≤ k
  · rw [if_pos hk]
    obtain ⟨j, rfl⟩ := Int.eq_ofNat_of_zero_le hk
    rw [Int.toNat_natCast]
    exact rshl h lx j (by omega)
  · rw [if_neg hk]
    obtain ⟨j, hj⟩ := Int.eq_ofNat_of_zero_le (show 0 ≤ -k by omega)
    have e : k = -(j : Int) := by omega
    rw [hj, Int.toNat_natCast, e]
    exact rshr h lx j (by omega) (by omega)
end Go.Proofs.YtocffoemimghhaaGreatDoor
end
section
namespace Go.Proofs.YtocffoemimghhaaGreatDoor
open Go.RowKit Go.Shelf

/-- The power of two of the last digit. -/
def ex (b : Nat) : Int := if b / 4503599627370496 % 2048 = 0 then -1074 else ((b / 4503599627370496 % 2048 : Nat) : Int) - 1075
set_option maxHeartbeats 1000000 in
set_option maxRecDepth 100000 in
theorem rparts_no (b m : Int) (g : Bool) (hg : (b / 9223372036854775808 == 1) = g) (hF : bits .and .u64 (b / 4503599627370496) 2047 = 2047) (hm : bits .and .u64 b 4503599627370495 = m) (w : World) :
    Calls Tryz.prog 72 #[.int .u64 b] w fun e w' => e = .returned (.tuple #[.bool g, .slice none 0 0, .int .i64 0, .bool false]) ∧ w' = w := by
  go_enter Tryz.func72, Tryz.ntmps72
  go_wp2
  exact bodyPost_ret (v := .tuple #[.bool g, .slice none 0 0, .int .i64 0, .bool false]) (by simp [results, Tryz.results72, go_sem]) rfl ⟨rfl, rfl⟩
set_option maxHeartbeats 1000000 in
set_option maxRecDepth 100000 in
theorem rparts_sub (b : Int) (m : Nat) (g : Bool) (hg : (b / 9223372036854775808 == 1) = g) (hF : bits .and .u64 (b / 4503599627370496) 2047 = 0) (hm : bits .and .u64 b 4503599627370495 = (m : Int)) (hm1 : m < 18446744073709551616) (w : World) :
    Calls Tryz.prog 72 #[.int .u64 b] w fun e w' => ∃ s', e = .returned (.tuple #[.bool g, s', .int .i64 (-1074), .bool true]) ∧ DR w' s' m ∧ Below w.heap.size w w' := by
  have HM := Lib.hid hm1; clear hm1
  go_enter Tryz.func72, Tryz.ntmps72
  go_wp2_with fail
  (with_reducible refine (rsmall m HM.out _).mono ?_)
  rintro e w1 ⟨s', rfl, hr, hb⟩
  have HR := Lib.hid hr; have HB := Lib.hid hb; clear hr hb
  go_wp2
  exact bodyPost_ret (v := .tuple #[.bool g, s', .int .i64 (-1074), .bool true]) (by simp [results, Tryz.results72, go_sem]) rfl ⟨s', rfl, HR.out, HB.out⟩
set_option maxHeartbeats 1000000 in
set_option maxRecDepth 100000 in
theorem rparts_norm (b m F : Int) (d : Nat) (g : Bool) (hg : (b / 9223372036854775808 == 1) = g) (hF : bits .and .u64 (b / 4503599627370496) 2047 = F) (hF0 : (F == 0) = false) (hF1 : (F == 2047) = false) (hF2 : 0 ≤ F) (hF3 : F < 2048) (hm : bits .and .u64 b 4503599627370495 = m) (hd : bits .or .u64 m 4503599627370496 = (d : Int)) (hd1 : d < 18446744073709551616) (w : World) :
    Calls Tryz.prog 72 #[.int .u64 b] w fun e w' => ∃ s', e = .returned (.tuple #[.bool g, s', .int .i64 (F - 1075), .bool true]) ∧ DR w' s' d ∧ Below w.heap.size w w' := by
  have HM := Lib.hid hd1; clear hd1
  go_enter Tryz.func72, Tryz.ntmps72
  go_wp2_with fail
  (with_reducible refine (rsmall d HM.out _).mono ?_)
  rintro e w1 ⟨s', rfl, hr, hb⟩
  have HR := Lib.hid hr; have HB := Lib.hid hb; clear hr hb
  go_wp2
  exact bodyPost_ret (v := .tuple #[.bool g, s', .int .i64 (F - 1075), .bool true]) (by simp [results, Tryz.results72, go_sem]) rfl ⟨s', rfl, HR.out, HB.out⟩
theorem sgn_bool (b : Nat) : ((b : Int) / 9223372036854775808 == 1) = (sg b == 1) := by
  unfold sg
  rw [Bool.eq_iff_iff, beq_iff_eq, beq_iff_eq]
  omega
theorem fin_field {b : Nat} : rg b < INF ↔ b / 4503599627370496 % 2048 ≠ 2047 := by
  have h5 : INF = 9218868437227405312 := rfl
  unfold rg
  omega
theorem rparts_inf (b : Nat) (hb : b < 18446744073709551616) (h : ¬ rg b < INF) (w : World) :
    Calls Tryz.prog 72 #[.int .u64 b] w fun e w' => e = .returned (.tuple #[.bool (sg b == 1), .slice none 0 0, .int .i64 0, .bool false]) ∧ w' = w := by
  have hF : b / 4503599627370496 % 2048 = 2047 := Decidable.byContradiction fun hc => h (fin_field.2 hc)
  have e := field_bits b hb
  rw [hF] at e
  exact rparts_no b _ _ (sgn_bool b) e (frac_bits b hb) w
theorem rparts_fin (b : Nat) (hb : b < 18446744073709551616) (h : rg b < INF) (w : World) :
    Calls Tryz.prog 72 #[.int .u64 b] w fun e w' => ∃ s', e = .returned (.tuple #[.bool (sg b == 1), s', .int .i64 (ex b), .bool true]) ∧ DR w' s' (dg b) ∧ Below w.heap.size w w' := by
  have hF := fin_field.1 h
  have e := field_bits b hb
  by_cases h0 : b / 4503599627370496 % 2048 = 0
  · have hd : dg b = b % 4503599627370496 := by unfold dg; rw [if_pos h0]; rfl
    have he : ex b = -1074 := by unfold ex; rw [if_pos h0]
    rw [hd, he]
    rw [h0] at e
    exact rparts_sub b _ _ (sgn_bool b) e (frac_bits b hb) (by omega) w
  · have hd : dg b = b % 4503599627370496 + 4503599627370496 := by unfold dg; rw [if_neg h0]
    have he : ex b = ((b / 4503599627370496 % 2048 : Nat) : Int) - 1075 := by unfold ex; rw [if_neg h0]
    rw [hd, he]
    exact rparts_norm b _ _ _ _ (sgn_bool b) e (by rw [beq_eq_false_iff_ne]; omega) (by rw [beq_eq_false_iff_ne]; omega) (by omega) (by omega) (frac_bits b hb) (hid_bits b) (by omega) w
end Go.Proofs.YtocffoemimghhaaGreatDoor
end
