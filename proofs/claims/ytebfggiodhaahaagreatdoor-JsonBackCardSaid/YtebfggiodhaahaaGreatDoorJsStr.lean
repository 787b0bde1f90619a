/-
  Package json's texts: appendByte, appendText.
-/
import Derived.Test.YtebfggiodhaahaaGreatDoorGJ1
import Derived.Test.YtebfggiodhaahaaGreatDoorShelf
import Derived.Test.YtebfggiodhaahaaGreatDoorGH
import Derived.Deep.RegionHeld3
namespace Go.Proofs.YtebfggiodhaahaaGreatDoor
open Go.RowKit Go.Shelf
set_option linter.unusedVariables false

/-- A digit of sixteen. -/
def jhex (n : Nat) : UInt8 := if n < 10 then UInt8.ofNat (48 + n) else UInt8.ofNat (87 + n)
/-- How JSON writes a byte of a text. -/
def jesc (c : UInt8) : List UInt8 :=
  if c = 34 then [92, 34] else if c = 92 then [92, 92] else if c = 8 then [92, 98] else if c = 12 then [92, 102] else if c = 10 then [92, 110] else if c = 13 then [92, 114] else if c = 9 then [92, 116]
  else if c.toNat < 32 then [92, 117, 48, 48, jhex (c.toNat / 16), jhex (c.toNat % 16)] else [c]
def jq (l : List UInt8) : List UInt8 := 34 :: (l.flatMap jesc ++ [34])
theorem jesc_len (c : UInt8) : (jesc c).length ≤ 6 := by
  unfold jesc
  (repeat' split) <;> simp
theorem jescs_len (l : List UInt8) : (l.flatMap jesc).length ≤ 6 * l.length := by
  induction l with
  | nil => simp
  | cons c l ih =>
    rw [List.flatMap_cons, List.length_append, List.length_cons]
    have := jesc_len c
    omega
theorem jq_len (l : List UInt8) : (jq l).length ≤ 6 * l.length + 2 := by
  unfold jq
  rw [List.length_cons, List.length_append, List.length_singleton]
  have := jescs_len l
  omega
set_option maxRecDepth 100000 in
theorem abyte_esc (C K : Int) (x : UInt8) (hK : (K = 0 ∧ x = 34) ∨ (K = 1 ∧ x = 92) ∨ (K = 2 ∧ x = 98) ∨ (K = 3 ∧ x = 102) ∨ (K = 4 ∧ x = 110) ∨ (K = 5 ∧ x = 114) ∨ (K = 6 ∧ x = 116)) (v : Value) (l : List UInt8) (base : Nat) (w : World) (hbase : base ≤ w.heap.size) (h : Bo w base v l) (hl : l.length ≤ 990000)
    (kI : ∀ W, Calls Tryz.prog 113 #[.string ⟨#[34, 92, 8, 12, 10, 13, 9]⟩, .int .u8 C] W fun e w' => e = .returned (.int .i64 K) ∧ w' = W) :
    Calls Tryz.prog 69 #[v, .int .u8 C] w fun e w' => ∃ v', e = .returned v' ∧ Bo w' base v' (l ++ [92, x]) ∧ Onto w w' v v' := by
  have KI := Lib.hid kI; have HB := Lib.hid h
  clear kI h
  rcases hK with ⟨rfl, rfl⟩ | ⟨rfl, rfl⟩ | ⟨rfl, rfl⟩ | ⟨rfl, rfl⟩ | ⟨rfl, rfl⟩ | ⟨rfl, rfl⟩ | ⟨rfl, rfl⟩
  all_goals
    go_enter Tryz.func69, Tryz.ntmps69
    go_wp2_with (first
      | (go_at_call 113; ((with_reducible refine (KI.out _).mono ?_); rintro e w1 ⟨rfl, rfl⟩))
      | (at_builtin; refine wpList_append_bytes _ rfl (.tmp 10) (.tmp 13) rfl base v l rfl (Bo.alloc HB.out _) _ 2 2 [92, _] rfl rfl (by decide) (LitB.of (hnewB rfl) rfl) _ rfl (by omega) (by simp; omega) ?_; intro q cap w2 B2 O2))
    go_ret
    exact ⟨_, rfl, B2, (Onto.of (bal (Below.refl _ _) _) v).trans O2⟩
set_option maxRecDepth 100000 in
set_option maxHeartbeats 2000000 in
theorem abyte_low (C : Int) (x y : UInt8) (hC : (C = 0 ∧ x = 48 ∧ y = 48) ∨ (C = 1 ∧ x = 48 ∧ y = 49) ∨ (C = 2 ∧ x = 48 ∧ y = 50) ∨ (C = 3 ∧ x = 48 ∧ y = 51) ∨ (C = 4 ∧ x = 48 ∧ y = 52) ∨ (C = 5 ∧ x = 48 ∧ y = 53) ∨ (C = 6 ∧ x = 48 ∧ y = 54) ∨ (C = 7 ∧ x = 48 ∧ y = 55) ∨ (C = 11 ∧ x = 48 ∧ y = 98) ∨ (C = 14 ∧ x = 48 ∧ y = 101) ∨ (C = 15 ∧ x = 48 ∧ y = 102) ∨ (C = 16 ∧ x = 49 ∧ y = 48) ∨ (C = 17 ∧ x = 49 ∧ y = 49) ∨ (C = 18 ∧ x = 49 ∧ y = 50) ∨ (C = 19 ∧ x = 49 ∧ y = 51) ∨ (C = 20 ∧ x = 49 ∧ y = 52) ∨ (C = 21 ∧ x = 49 ∧ y = 53) ∨ (C = 22 ∧ x = 49 ∧ y = 54) ∨ (C = 23 ∧ x = 49 ∧ y = 55) ∨ (C = 24 ∧ x = 49 ∧ y = 56) ∨ (C = 25 ∧ x = 49 ∧ y = 57) ∨ (C = 26 ∧ x = 49 ∧ y = 97) ∨ (C = 27 ∧ x = 49 ∧ y = 98) ∨ (C = 28 ∧ x = 49 ∧ y = 99) ∨ (C = 29 ∧ x = 49 ∧ y = 100) ∨ (C = 30 ∧ x = 49 ∧ y = 101) ∨ (C = 31 ∧ x = 49 ∧ y = 102)) (v : Value) (l : List UInt8) (base : Nat) (w : World) (hbase : base ≤ w.heap.size) (h : Bo w base v l) (hl : l.length ≤ 990000)
    (kI : ∀ W, Calls Tryz.prog 113 #[.string ⟨#[34, 92, 8, 12, 10, 13, 9]⟩, .int .u8 C] W fun e w' => e = .returned (.int .i64 (-1)) ∧ w' = W) :
    Calls Tryz.prog 69 #[v, .int .u8 C] w fun e w' => ∃ v', e = .returned v' ∧ Bo w' base v' (l ++ [92, 117, 48, 48, x, y]) ∧ Onto w w' v v' := by
  have KI := Lib.hid kI; have HB := Lib.hid h
  clear kI h
  rcases hC with ⟨rfl, hx, hy⟩ | ⟨rfl, hx, hy⟩ | ⟨rfl, hx, hy⟩ | ⟨rfl, hx, hy⟩ | ⟨rfl, hx, hy⟩ | ⟨rfl, hx, hy⟩ | ⟨rfl, hx, hy⟩ | ⟨rfl, hx, hy⟩ | ⟨rfl, hx, hy⟩ | ⟨rfl, hx, hy⟩ | ⟨rfl, hx, hy⟩ | ⟨rfl, hx, hy⟩ | ⟨rfl, hx, hy⟩ | ⟨rfl, hx, hy⟩ | ⟨rfl, hx, hy⟩ | ⟨rfl, hx, hy⟩ | ⟨rfl, hx, hy⟩ | ⟨rfl, hx, hy⟩ | ⟨rfl, hx, hy⟩ | ⟨rfl, hx, hy⟩ | ⟨rfl, hx, hy⟩ | ⟨rfl, hx, hy⟩ | ⟨rfl, hx, hy⟩ | ⟨rfl, hx, hy⟩ | ⟨rfl, hx, hy⟩ | ⟨rfl, hx, hy⟩ | ⟨rfl, hx, hy⟩
  all_goals
    go_enter Tryz.func69, Tryz.ntmps69
    go_wp2_with (first
      | (go_at_call 113; ((with_reducible refine (KI.out _).mono ?_); rintro e w1 ⟨rfl, rfl⟩)))
    first | (go_region_held3 (fun _ => True) (trivial) (first | (refine step_append_bytes (by rfl) (.tmp 17) (.tmp 24) (by rfl) base v l (by rfl) (by repeat (first | (with_reducible exact HB.out) | (with_reducible refine Bo.alloc ?_ _) | (with_reducible refine Bo.drew ?_))) _ 6 6 [92, 117, 48, 48, x, y] (by first | rfl | (simp [Act.eval]; done)) (by rfl) (by decide) (LitB.of (cs := _) (t := _) (hnewB rfl) (by rw [hx, hy]; rfl)) _ (by rfl) (by omega) (by simp <;> omega) ?_; intro q cap w2 B2 O2; have HB2 := Lib.hid B2; have HO2 := Lib.hid ((Onto.of (show Below w1.heap.size w1 _ from (by repeat (first | (with_reducible exact Below.refl _ _) | (with_reducible refine bal ?_ _) | (with_reducible refine Below.drew ?_)))) v).trans O2); clear B2 O2) | fail)) | fail
    all_goals
      go_wp2
      go_ret
      exact ⟨_, rfl, HB2.out, HO2.out⟩
set_option maxRecDepth 100000 in
theorem abyte_plain (c : UInt8) (hc : 32 ≤ c.toNat) (v : Value) (l : List UInt8) (base : Nat) (w : World) (hbase : base ≤ w.heap.size) (h : Bo w base v l) (hl : l.length ≤ 990000)
    (kI : ∀ W, Calls Tryz.prog 113 #[.string ⟨#[34, 92, 8, 12, 10, 13, 9]⟩, .int .u8 (c.toNat : Int)] W fun e w' => e = .returned (.int .i64 (-1)) ∧ w' = W) :
    Calls Tryz.prog 69 #[v, .int .u8 (c.toNat : Int)] w fun e w' => ∃ v', e = .returned v' ∧ Bo w' base v' (l ++ [c]) ∧ Onto w w' v v' := by
  have KI := Lib.hid kI; have HB := Lib.hid h
  obtain ⟨C, hC⟩ : ∃ C : Int, (c.toNat : Int) = C := ⟨_, rfl⟩
  have HC := Lib.hid hC
  have hc2 : ¬ C < 32 := by omega
  rw [hC] at KI ⊢
  clear kI h hC hc
  go_enter Tryz.func69, Tryz.ntmps69
  go_wp2_with (first
    | (go_at_call 113; ((with_reducible refine (KI.out _).mono ?_); rintro e w1 ⟨rfl, rfl⟩))
    | (at_builtin; refine wpList_append_bytes _ rfl (.tmp 26) (.tmp 28) rfl base v l rfl (Bo.alloc HB.out _) _ 1 1 [c] rfl rfl (by decide) (LitB.of (hnewB rfl) (by rw [← HC.out]; rfl)) _ rfl (by omega) (by simp; omega) ?_; intro q cap w2 B2 O2))
  go_ret
  exact ⟨_, rfl, B2, (Onto.of (bal (Below.refl _ _) _) v).trans O2⟩
theorem idx_all : ∀ n ∈ List.range 256, n = 34 ∨ n = 92 ∨ n = 8 ∨ n = 12 ∨ n = 10 ∨ n = 13 ∨ n = 9 ∨ Lib.indexByte [34, 92, 8, 12, 10, 13, 9] ((n : Int)).toNat.toUInt8 = -1 := by decide +kernel
theorem idx_no (n : Nat) (h : n < 256) (h1 : n ≠ 34) (h2 : n ≠ 92) (h3 : n ≠ 8) (h4 : n ≠ 12) (h5 : n ≠ 10) (h6 : n ≠ 13) (h7 : n ≠ 9) : Lib.indexByte [34, 92, 8, 12, 10, 13, 9] ((n : Int)).toNat.toUInt8 = -1 := by
  rcases idx_all n (List.mem_range.2 h) with h | h | h | h | h | h | h | h
  · exact absurd h h1
  · exact absurd h h2
  · exact absurd h h3
  · exact absurd h h4
  · exact absurd h h5
  · exact absurd h h6
  · exact absurd h h7
  · exact h
theorem abyte_any (c : UInt8) (v : Value) (l : List UInt8) (base : Nat) (w : World) (hbase : base ≤ w.heap.size) (h : Bo w base v l) (hl : l.length ≤ 990000) :
    Calls Tryz.prog 69 #[v, .int .u8 (c.toNat : Int)] w fun e w' => ∃ v', e = .returned v' ∧ Bo w' base v' (l ++ jesc c) ∧ Onto w w' v v' := by
  have kI := fun W => Tryz.strings_IndexByte ⟨#[34, 92, 8, 12, 10, 13, 9]⟩ (c.toNat : Int) W
  by_cases h1 : c = 34 ∨ c = 92 ∨ c = 8 ∨ c = 12 ∨ c = 10 ∨ c = 13 ∨ c = 9
  · rcases h1 with rfl | rfl | rfl | rfl | rfl | rfl | rfl
    · have e : jesc 34 = [92, 34] := by decide
      rw [e]
      exact abyte_esc _ 0 34 (by decide) v l base w hbase h hl kI
    · have e : jesc 92 = [92, 92] := by decide
      rw [e]
      exact abyte_esc _ 1 92 (by decide) v l base w hbase h hl kI
    · have e : jesc 8 = [92, 98] := by decide
      rw [e]
      exact abyte_esc _ 2 98 (by decide) v l base w hbase h hl kI
    · have e : jesc 12 = [92, 102] := by decide
      rw [e]
      exact abyte_esc _ 3 102 (by decide) v l base w hbase h hl kI
    · have e : jesc 10 = [92, 110] := by decide
      rw [e]
      exact abyte_esc _ 4 110 (by decide) v l base w hbase h hl kI
    · have e : jesc 13 = [92, 114] := by decide
      rw [e]
      exact abyte_esc _ 5 114 (by decide) v l base w hbase h hl kI
    · have e : jesc 9 = [92, 116] := by decide
      rw [e]
      exact abyte_esc _ 6 116 (by decide) v l base w hbase h hl kI
  · simp only [not_or] at h1
    obtain ⟨n1, n2, n3, n4, n5, n6, n7⟩ := h1
    have nn : ∀ (k : UInt8), c ≠ k → c.toNat ≠ k.toNat := fun k h hc => h (UInt8.toNat_inj.1 hc)
    have kI2 := fun W => by
      have := kI W
      rw [show (⟨#[34, 92, 8, 12, 10, 13, 9]⟩ : ByteArray).data.toList = [34, 92, 8, 12, 10, 13, 9] from rfl, idx_no c.toNat c.toNat_lt (nn _ n1) (nn _ n2) (nn _ n3) (nn _ n4) (nn _ n5) (nn _ n6) (nn _ n7)] at this
      exact this
    have m3 : c.toNat ≠ 8 := nn 8 n3
    have m4 : c.toNat ≠ 12 := nn 12 n4
    have m5 : c.toNat ≠ 10 := nn 10 n5
    have m6 : c.toNat ≠ 13 := nn 13 n6
    have m7 : c.toNat ≠ 9 := nn 9 n7
    by_cases h2 : c.toNat < 32
    · have e : jesc c = [92, 117, 48, 48, jhex (c.toNat / 16), jhex (c.toNat % 16)] := by unfold jesc; rw [if_neg n1, if_neg n2, if_neg n3, if_neg n4, if_neg n5, if_neg n6, if_neg n7, if_pos h2]
      rw [e]
      refine abyte_low _ _ _ ?_ v l base w hbase h hl kI2
      rcases (show c.toNat = 0 ∨ c.toNat = 1 ∨ c.toNat = 2 ∨ c.toNat = 3 ∨ c.toNat = 4 ∨ c.toNat = 5 ∨ c.toNat = 6 ∨ c.toNat = 7 ∨ c.toNat = 11 ∨ c.toNat = 14 ∨ c.toNat = 15 ∨ c.toNat = 16 ∨ c.toNat = 17 ∨ c.toNat = 18 ∨ c.toNat = 19 ∨ c.toNat = 20 ∨ c.toNat = 21 ∨ c.toNat = 22 ∨ c.toNat = 23 ∨ c.toNat = 24 ∨ c.toNat = 25 ∨ c.toNat = 26 ∨ c.toNat = 27 ∨ c.toNat = 28 ∨ c.toNat = 29 ∨ c.toNat = 30 ∨ c.toNat = 31 by omega) with h | h | h | h | h | h | h | h | h | h | h | h | h | h | h | h | h | h | h | h | h | h | h | h | h | h | h
      · rw [h]; exact (Or.inl ⟨by decide, by decide, by decide⟩)
      · rw [h]; exact (Or.inr (Or.inl ⟨by decide, by decide, by decide⟩))
      · rw [h]; exact (Or.inr (Or.inr (Or.inl ⟨by decide, by decide, by decide⟩)))
      · rw [h]; exact (Or.inr (Or.inr (Or.inr (Or.inl ⟨by decide, by decide, by decide⟩))))
      · rw [h]; exact (Or.inr (Or.inr (Or.inr (Or.inr (Or.inl ⟨by decide, by decide, by decide⟩)))))
      · rw [h]; exact (Or.inr (Or.inr (Or.inr (Or.inr (Or.inr (Or.inl ⟨by decide, by decide, by decide⟩))))))
      · rw [h]; exact (Or.inr (Or.inr (Or.inr (Or.inr (Or.inr (Or.inr (Or.inl ⟨by decide, by decide, by decide⟩)))))))
      · rw [h]; exact (Or.inr (Or.inr (Or.inr (Or.inr (Or.inr (Or.inr (Or.inr (Or.inl ⟨by decide, by decide, by decide⟩))))))))
      · rw [h]; exact (Or.inr (Or.inr (Or.inr (Or.inr (Or.inr (Or.inr (Or.inr (Or.inr (Or.inl ⟨by decide, by decide, by decide⟩)))))))))
      · rw [h]; exact (Or.inr (Or.inr (Or.inr (Or.inr (Or.inr (Or.inr (Or.inr (Or.inr (Or.inr (Or.inl ⟨by decide, by decide, by decide⟩))))))))))
      · rw [h]; exact (Or.inr (Or.inr (Or.inr (Or.inr (Or.inr (Or.inr (Or.inr (Or.inr (Or.inr (Or.inr (Or.inl ⟨by decide, by decide, by decide⟩)))))))))))
      · rw [h]; exact (Or.inr (Or.inr (Or.inr (Or.inr (Or.inr (Or.inr (Or.inr (Or.inr (Or.inr (Or.inr (Or.inr (Or.inl ⟨by decide, by decide, by decide⟩))))))))))))
      · rw [h]; exact (Or.inr (Or.inr (Or.inr (Or.inr (Or.inr (Or.inr (Or.inr (Or.inr (Or.inr (Or.inr (Or.inr (Or.inr (Or.inl ⟨by decide, by decide, by decide⟩)))))))))))))
      · rw [h]; exact (Or.inr (Or.inr (Or.inr (Or.inr (Or.inr (Or.inr (Or.inr (Or.inr (Or.inr (Or.inr (Or.inr (Or.inr (Or.inr (Or.inl ⟨by decide, by decide, by decide⟩))))))))))))))
      · rw [h]; exact (Or.inr (Or.inr (Or.inr (Or.inr (Or.inr (Or.inr (Or.inr (Or.inr (Or.inr (Or.inr (Or.inr (Or.inr (Or.inr (Or.inr (Or.inl ⟨by decide, by decide, by decide⟩)))))))))))))))
      · rw [h]; exact (Or.inr (Or.inr (Or.inr (Or.inr (Or.inr (Or.inr (Or.inr (Or.inr (Or.inr (Or.inr (Or.inr (Or.inr (Or.inr (Or.inr (Or.inr (Or.inl ⟨by decide, by decide, by decide⟩))))))))))))))))
      · rw [h]; exact (Or.inr (Or.inr (Or.inr (Or.inr (Or.inr (Or.inr (Or.inr (Or.inr (Or.inr (Or.inr (Or.inr (Or.inr (Or.inr (Or.inr (Or.inr (Or.inr (Or.inl ⟨by decide, by decide, by decide⟩)))))))))))))))))
      · rw [h]; exact (Or.inr (Or.inr (Or.inr (Or.inr (Or.inr (Or.inr (Or.inr (Or.inr (Or.inr (Or.inr (Or.inr (Or.inr (Or.inr (Or.inr (Or.inr (Or.inr (Or.inr (Or.inl ⟨by decide, by decide, by decide⟩))))))))))))))))))
      · rw [h]; exact (Or.inr (Or.inr (Or.inr (Or.inr (Or.inr (Or.inr (Or.inr (Or.inr (Or.inr (Or.inr (Or.inr (Or.inr (Or.inr (Or.inr (Or.inr (Or.inr (Or.inr (Or.inr (Or.inl ⟨by decide, by decide, by decide⟩)))))))))))))))))))
      · rw [h]; exact (Or.inr (Or.inr (Or.inr (Or.inr (Or.inr (Or.inr (Or.inr (Or.inr (Or.inr (Or.inr (Or.inr (Or.inr (Or.inr (Or.inr (Or.inr (Or.inr (Or.inr (Or.inr (Or.inr (Or.inl ⟨by decide, by decide, by decide⟩))))))))))))))))))))
      · rw [h]; exact (Or.inr (Or.inr (Or.inr (Or.inr (Or.inr (Or.inr (Or.inr (Or.inr (Or.inr (Or.inr (Or.inr (Or.inr (Or.inr (Or.inr (Or.inr (Or.inr (Or.inr (Or.inr (Or.inr (Or.inr (Or.inl ⟨by decide, by decide, by decide⟩)))))))))))))))))))))
      · rw [h]; exact (Or.inr (Or.inr (Or.inr (Or.inr (Or.inr (Or.inr (Or.inr (Or.inr (Or.inr (Or.inr (Or.inr (Or.inr (Or.inr (Or.inr (Or.inr (Or.inr (Or.inr (Or.inr (Or.inr (Or.inr (Or.inr (Or.inl ⟨by decide, by decide, by decide⟩))))))))))))))))))))))
      · rw [h]; exact (Or.inr (Or.inr (Or.inr (Or.inr (Or.inr (Or.inr (Or.inr (Or.inr (Or.inr (Or.inr (Or.inr (Or.inr (Or.inr (Or.inr (Or.inr (Or.inr (Or.inr (Or.inr (Or.inr (Or.inr (Or.inr (Or.inr (Or.inl ⟨by decide, by decide, by decide⟩)))))))))))))))))))))))
      · rw [h]; exact (Or.inr (Or.inr (Or.inr (Or.inr (Or.inr (Or.inr (Or.inr (Or.inr (Or.inr (Or.inr (Or.inr (Or.inr (Or.inr (Or.inr (Or.inr (Or.inr (Or.inr (Or.inr (Or.inr (Or.inr (Or.inr (Or.inr (Or.inr (Or.inl ⟨by decide, by decide, by decide⟩))))))))))))))))))))))))
      · rw [h]; exact (Or.inr (Or.inr (Or.inr (Or.inr (Or.inr (Or.inr (Or.inr (Or.inr (Or.inr (Or.inr (Or.inr (Or.inr (Or.inr (Or.inr (Or.inr (Or.inr (Or.inr (Or.inr (Or.inr (Or.inr (Or.inr (Or.inr (Or.inr (Or.inr (Or.inl ⟨by decide, by decide, by decide⟩)))))))))))))))))))))))))
      · rw [h]; exact (Or.inr (Or.inr (Or.inr (Or.inr (Or.inr (Or.inr (Or.inr (Or.inr (Or.inr (Or.inr (Or.inr (Or.inr (Or.inr (Or.inr (Or.inr (Or.inr (Or.inr (Or.inr (Or.inr (Or.inr (Or.inr (Or.inr (Or.inr (Or.inr (Or.inr (Or.inl ⟨by decide, by decide, by decide⟩))))))))))))))))))))))))))
      · rw [h]; exact (Or.inr (Or.inr (Or.inr (Or.inr (Or.inr (Or.inr (Or.inr (Or.inr (Or.inr (Or.inr (Or.inr (Or.inr (Or.inr (Or.inr (Or.inr (Or.inr (Or.inr (Or.inr (Or.inr (Or.inr (Or.inr (Or.inr (Or.inr (Or.inr (Or.inr (Or.inr ⟨by decide, by decide, by decide⟩))))))))))))))))))))))))))
    · have e : jesc c = [c] := by unfold jesc; rw [if_neg n1, if_neg n2, if_neg n3, if_neg n4, if_neg n5, if_neg n6, if_neg n7, if_neg h2]
      rw [e]
      exact abyte_plain c (by omega) v l base w hbase h hl kI2
set_option maxRecDepth 100000 in
set_option maxHeartbeats 2000000 in
theorem atext_any (s : ByteArray) (hs : s.size ≤ 100000) (v : Value) (l : List UInt8) (base : Nat) (w : World) (hbase : base ≤ w.heap.size) (h : Bo w base v l) (hl : l.length + 6 * s.size ≤ 900000) :
    Calls Tryz.prog 35 #[v, .string s] w fun e w' => ∃ v', e = .returned v' ∧ Bo w' base v' (l ++ jq s.data.toList) ∧ Onto w w' v v' := by
  have HB0 := Lib.hid h
  have HLen : Hid (s.data.toList.length = s.size) := Lib.hid (bytes_len s)
  have hl2 : l.length + (⟨#[34]⟩ : ByteArray).size ≤ 140737488355328 := by show l.length + 1 ≤ _; omega
  clear h
  go_enter Tryz.func35, Tryz.ntmps35
  go_wp2_with (at_builtin; refine wpList_append_text _ rfl (.tmp 6) _ rfl base v l rfl HB0.out ⟨#[34]⟩ rfl hl2 hbase ?_; intro v1 w1 B1 O1)
  have HB1 := Lib.hid B1; have HO1 := Lib.hid O1; clear B1 O1
  go_loopw [0, 5, 10] (fun bv _ iv wr => ∃ (k : Nat) (r : List UInt8), k ≤ s.size ∧ iv = .int .i64 k ∧ Hid (Bo wr base bv r) ∧ Hid (Onto w wr v bv) ∧ Hid (r = l ++ 34 :: (s.data.toList.take k).flatMap jesc) ∧ r.length ≤ l.length + 1 + 6 * k) (fun _ _ i _ => s.size - (intOf i).toNat)
  case atStart => exact ⟨0, l ++ [34], Nat.zero_le _, rfl, HB1, HO1, (by show _ = _; rw [List.take_zero]; rfl), by rw [List.length_append]; simp⟩
  case round =>
    obtain ⟨k, r, hk, rfl, HB, HO, HR, hr⟩ := hrel
    clear HB1 HO1
    rename World => wr
    have hws := HO.out.size
    by_cases hlt : k < s.size
    · have hlt2 : (k : Int) < (s.size : Int) := by omega
      obtain ⟨c, hc⟩ : ∃ c, s[k]'hlt = c := ⟨_, rfl⟩
      have KB := Lib.hid (abyte_any c u0 r base wr (by omega) HB.out (by omega))
      have HC : Hid (s.data.toList[k]? = some c) := by show _ = _; rw [List.getElem?_eq_getElem (by rw [HLen.out]; exact hlt)]; rw [← hc]; rfl
      go_wp2_with (go_at_call 69; ((with_reducible refine (KB.out).mono ?_); rintro e w3 ⟨v3, rfl, B3, O3⟩))
      go_roundw
      case rel =>
        refine ⟨k + 1, r ++ jesc c, by omega, by go_num, B3, HO.out.trans O3, ?_, ?_⟩
        · show _ = _
          rw [HR.out, take_next HC.out, List.flatMap_append]
          simp
        · rw [List.length_append]
          have := jesc_len c
          omega
      case measure => simp [intOf]; omega
    · have hge : ¬ (k : Int) < (s.size : Int) := by omega
      obtain rfl : k = s.size := by omega
      have hr2 : r.length + (⟨#[34]⟩ : ByteArray).size ≤ 140737488355328 := by show r.length + 1 ≤ _; omega
      go_wp2_with (at_builtin; refine wpList_append_text _ rfl (.tmp 19) _ rfl base u0 r rfl HB.out ⟨#[34]⟩ rfl hr2 (by omega) ?_; intro v4 w4 B4 O4)
      go_ret
      refine ⟨_, rfl, ?_, HO.out.trans O4⟩
      rw [HR.out, List.take_of_length_le (by rw [HLen.out]; exact Nat.le_refl _)] at B4
      have e : l ++ 34 :: s.data.toList.flatMap jesc ++ (⟨#[34]⟩ : ByteArray).data.toList = l ++ jq s.data.toList := by
        unfold jq
        show l ++ 34 :: s.data.toList.flatMap jesc ++ [34] = _
        simp
      rw [e] at B4
      exact B4
end Go.Proofs.YtebfggiodhaahaaGreatDoor
