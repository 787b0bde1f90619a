/-
  nat.withDigit: the contract, for all numbers of four words, all bytes; what a text of digits is.
-/
import Derived.Test.YtoibaeilbolffaaGreatDoorNatMul
namespace Go.Proofs.YtoibaeilbolffaaGreatDoor
open Go.RowKit Go.Shelf

abbrev Z4 : Value := .agg #[.int .u64 0, .int .u64 0, .int .u64 0, .int .u64 0]

theorem digit_bad (a0 a1 a2 a3 c : Int) (h : c < 48 ∨ 57 < c) (w : World) : Calls Tryz.prog 78 #[.agg #[.int .u64 a0, .int .u64 a1, .int .u64 a2, .int .u64 a3], .int .u8 c] w fun e w' => e = .returned (.tuple #[Z4, .bool false]) ∧ Below w.heap.size w w' := by
  rcases h with h | h
  · go_enter Tryz.func78, Tryz.ntmps78
    go_wp2
    exact bodyPost_ret (v := .tuple #[Z4, .bool false]) (by simp [results, Tryz.results78, go_sem]) rfl ⟨rfl, bal (bal (Below.refl _ _) _) _⟩
  · have h' : ¬ c < 48 := by omega
    go_enter Tryz.func78, Tryz.ntmps78
    go_wp2
    exact bodyPost_ret (v := .tuple #[Z4, .bool false]) (by simp [results, Tryz.results78, go_sem]) rfl ⟨rfl, bal (bal (Below.refl _ _) _) _⟩

theorem digit_mulover (x : Nat) (hx : x < 2 ^ 256) (c : Int) (h1 : ¬ c < 48) (h2 : ¬ 57 < c) (h : ¬ x * 10 < 2 ^ 256) (w : World) : Calls Tryz.prog 78 #[N4 x, .int .u8 c] w fun e w' => e = .returned (.tuple #[Z4, .bool false]) ∧ Below w.heap.size w w' := by
  go_enter Tryz.func78, Tryz.ntmps78
  go_wp2_with fail
  refine (mul_over x 10 hx (by decide) h _).mono ?_
  rintro e w1 ⟨rfl, hb⟩
  obtain ⟨hc, hf⟩ := bcell hb
  have hz := hb.size
  simp at hz
  have hz1 : w.heap.size + 1 < w1.heap.size := by omega
  go_wp2
  refine bodyPost_ret (v := .tuple #[Z4, .bool false]) (by simp [results, Tryz.results78, go_sem, hc, hz1]) rfl ⟨rfl, ?_⟩
  refine bal (bsc4 (btr ?_ hb) (by omega) _ _ _ _) _
  repeat (first | exact Below.refl _ _ | refine bal ?_ _ | refine Below.drew ?_ | refine bdn ?_ _)

set_option maxHeartbeats 400000 in
set_option maxRecDepth 100000 in
theorem digit_core (x : Nat) (hx : x < 2 ^ 256) (c : Int) (h1 : ¬ c < 48) (h2 : ¬ 57 < c) (h : x * 10 < 2 ^ 256) (v0 v1 v2 v3 : Int) (b : Bool)
    (hadd : ∀ W, Calls Tryz.prog 105 #[N4 (x * 10), .agg #[.int .u64 (c - 48), .int .u64 0, .int .u64 0, .int .u64 0]] W fun e w' => e = .returned (.tuple #[.agg #[.int .u64 v0, .int .u64 v1, .int .u64 v2, .int .u64 v3], .bool b]) ∧ Below W.heap.size W w') (w : World) : Calls Tryz.prog 78 #[N4 x, .int .u8 c] w fun e w' => e = .returned (.tuple #[.agg #[.int .u64 v0, .int .u64 v1, .int .u64 v2, .int .u64 v3], .bool b]) ∧ Below w.heap.size w w' := by
  have HA := Lib.hid hadd; clear hadd
  have hw8 : IntKind.u8.wrap (c - 48) = c - 48 := by rw [IntKind.wrap_u8]; omega
  have hw64 : IntKind.u64.wrap (c - 48) = c - 48 := by rw [IntKind.wrap_u64]; omega
  go_enter Tryz.func78, Tryz.ntmps78
  go_wp2_with fail
  refine (mul_ok x 10 hx (by decide) h _).mono ?_
  rintro e w1 ⟨rfl, hb⟩
  have R := Row4.keep hb (b := w.heap.size + 1) (Row4.new' _ (by simp) _ _ _ _)
  have hz : w.heap.size + 1 < w1.heap.size := R.lt
  have hw : Below w.heap.size w w1 := btr (bal (bal (Below.refl _ _) _) _) hb
  clear hb
  have hne : ¬ w1.heap.size = w.heap.size + 1 := by omega
  go_wp2
  go_region_held3 (fun w' => w'.cell? ⟨w1.heap.size, 0, none⟩ = some (.int .u64 (lb 0 (x * 10))) ∧ w'.cell? ⟨w1.heap.size, 1, none⟩ = some (.int .u64 (lb 1 (x * 10))) ∧ w'.cell? ⟨w1.heap.size, 2, none⟩ = some (.int .u64 (lb 2 (x * 10))) ∧ w'.cell? ⟨w1.heap.size, 3, none⟩ = some (.int .u64 (lb 3 (x * 10)))) (first | (simp [go_sem, World.cell?_alloc_past]; done) | (with_reducible exact ⟨t0, t1, t2, t3⟩) | (simp [go_sem, t0, t1, t2, t3]; done))
    (first | (go_at_call 58; refine (of_one _ _).mono ?_; rintro e w2 ⟨rfl, o2, rfl⟩) | (go_at_call 105; (with_reducible refine (HA.out _).mono ?_); rintro e w2 ⟨rfl, hb2⟩; obtain ⟨r0, r1, r2, r3, f0, f1, f2, f3⟩ := (Row4.keep hb2 (Row4.drew (Row4.alloc (Row4.alloc R _) _))).parts; obtain ⟨t0, t1, t2, t3, t4⟩ := (Row4.keep hb2 (Row4.drew (Row4.alloc (Row4.new _ _ _ _ _) _))).parts))
  go_wp2
  refine bodyPost_ret (v := .tuple #[.agg #[.int .u64 v0, .int .u64 v1, .int .u64 v2, .int .u64 v3], .bool b]) (by simp [results, Tryz.results78, go_sem, r0, r1, r2, r3]) rfl ⟨rfl, bsc4 (btr ?_ hb2) (by omega) _ _ _ _⟩
  exact bdn (n := 1) (bal (bal hw _) _)

/-- What a digit makes of a number. -/
def dstep (x : Nat) (c : UInt8) : Option Nat := if 48 ≤ c.toNat ∧ c.toNat ≤ 57 ∧ x * 10 + (c.toNat - 48) < 2 ^ 256 then some (x * 10 + (c.toNat - 48)) else none

theorem digit_ok (x : Nat) (hx : x < 2 ^ 256) (c : UInt8) (y : Nat) (h : dstep x c = some y) (w : World) : Calls Tryz.prog 78 #[N4 x, .int .u8 (c.toNat : Int)] w fun e w' => e = .returned (.tuple #[N4 y, .bool true]) ∧ Below w.heap.size w w' := by
  unfold dstep at h
  split at h
  · rename_i hh
    obtain ⟨h1, h2, h3⟩ := hh
    obtain rfl := Option.some.inj h
    refine digit_core x hx c.toNat (by omega) (by omega) (by omega) _ _ _ _ true (fun W => ?_) w
    have e := add_ok (x * 10) (c.toNat - 48) (by omega) (by omega) h3 W
    unfold N4 at e ⊢
    rw [show lb 0 (c.toNat - 48) = (c.toNat : Int) - 48 from by rw [lb0]; omega, show lb 1 (c.toNat - 48) = 0 from by rw [lb1]; omega, show lb 2 (c.toNat - 48) = 0 from by rw [lb2]; omega, show lb 3 (c.toNat - 48) = 0 from by rw [lb3]; omega] at e
    exact e
  · cases h
theorem digit_no (x : Nat) (hx : x < 2 ^ 256) (c : UInt8) (h : dstep x c = none) (w : World) : Calls Tryz.prog 78 #[N4 x, .int .u8 (c.toNat : Int)] w fun e w' => e = .returned (.tuple #[Z4, .bool false]) ∧ Below w.heap.size w w' := by
  unfold dstep at h
  split at h
  · cases h
  · rename_i hh
    by_cases hd : 48 ≤ c.toNat ∧ c.toNat ≤ 57
    · by_cases hm : x * 10 < 2 ^ 256
      · refine digit_core x hx c.toNat (by omega) (by omega) hm 0 0 0 0 false (fun W => ?_) w
        have e := add_over (x * 10) (c.toNat - 48) hm (by omega) (by omega) W
        unfold N4 at e ⊢
        rw [show lb 0 (c.toNat - 48) = (c.toNat : Int) - 48 from by rw [lb0]; omega, show lb 1 (c.toNat - 48) = 0 from by rw [lb1]; omega, show lb 2 (c.toNat - 48) = 0 from by rw [lb2]; omega, show lb 3 (c.toNat - 48) = 0 from by rw [lb3]; omega] at e
        simp only [lb_zero] at e
        exact e
      · exact digit_mulover x hx c.toNat (by omega) (by omega) hm w
    · exact digit_bad _ _ _ _ c.toNat (by omega) w

/-- What digits make of a number. -/
def dfold : List UInt8 → Nat → Option Nat
  | [], x => some x
  | c :: l, x => match dstep x c with
    | some y => dfold l y
    | none => none
theorem dstep_lt {x y : Nat} {c : UInt8} (h : dstep x c = some y) : y < 2 ^ 256 := by
  unfold dstep at h
  split at h
  · rename_i hh
    obtain rfl := Option.some.inj h
    exact hh.2.2
  · cases h
/-- The number whose decimals a text is. -/
def parseN (s : ByteArray) : Option Nat := if s.size = 0 ∨ (1 < s.size ∧ s.data.toList.head? = some 48) then none else dfold s.data.toList 0


end Go.Proofs.YtoibaeilbolffaaGreatDoor
