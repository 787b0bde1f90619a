/-
  The reference's digits (entrepotref1.D): a slice that reads as some digits; at, trim: the contracts. For all digits of 32 bits, fewer than 2^45 of them.
-/
import Derived.Test.YtjlgiejggcbgbaaGreatDoorDigMath
import Derived.Test.YtjlgiejggcbgbaaGreatDoorIntBase
namespace Go.Proofs.YtjlgiejggcbgbaaGreatDoor
open Go.RowKit Go.Shelf

/-- The cells from a place on hold these digits. -/
def Cs (W : World) (b off : Nat) (l : List Nat) : Prop := ∀ i : Nat, i < l.length → W.cell? ⟨b, off + i, none⟩ = some (.int .u32 ((l.getD i 0 : Nat) : Int))
/-- A slice value that reads as these digits. -/
def Rd (W : World) (s : Value) (l : List Nat) : Prop :=
  (l = [] ∧ ∃ (a : Option Addr) (c : Nat), s = .slice a 0 c) ∨ (∃ b off c : Nat, s = .slice (some ⟨b, off, none⟩) l.length c ∧ (l.length ≤ c ∧ c ≤ 9223372036854775807) ∧ b < W.heap.size ∧ Cs W b off l)
theorem Cs.keep {W W' : World} {b off : Nat} {l : List Nat} (hb : Below W.heap.size W W') (hlt : b < W.heap.size) (h : Cs W b off l) : Cs W' b off l := fun i hi => by
  rw [← h i hi]; exact hb.cell (p := ⟨b, off + i, none⟩) hlt
theorem Rd.keep {W W' : World} {s : Value} {l : List Nat} (hb : Below W.heap.size W W') (h : Rd W s l) : Rd W' s l := by
  rcases h with h | ⟨b, off, c, e, hc, hlt, hcs⟩
  · exact .inl h
  · exact .inr ⟨b, off, c, e, hc, Nat.lt_of_lt_of_le hlt hb.size, hcs.keep hb hlt⟩

theorem at_in (b off c n : Nat) (l : List Nat) (i : Int) (h0 : 0 ≤ i) (h1 : i < (n : Int)) (hn : l.length = n) (w : World) (hcs : Cs w b off l) (hsm : Sm l) :
    Calls Tryz.prog 76 #[.slice (some ⟨b, off, none⟩) n c, .int .i64 i] w fun e w' => e = .returned (.int .u64 ((l.getD i.toNat 0 : Nat) : Int)) ∧ w' = w := by
  obtain ⟨k, rfl⟩ := Int.eq_ofNat_of_zero_le h0
  have hcell := hcs k (by omega)
  have hlt := hsm.get k
  rw [Int.toNat_natCast]
  generalize l.getD k 0 = v at hcell hlt ⊢
  clear hcs hsm
  go_enter Tryz.func76, Tryz.ntmps76
  go_wp2
  go_ret
  exact ⟨rfl, rfl⟩
theorem at_out (a : Option Addr) (c n : Nat) (i : Int) (h1 : (n : Int) ≤ i) (w : World) :
    Calls Tryz.prog 76 #[.slice a n c, .int .i64 i] w fun e w' => e = .returned (.int .u64 0) ∧ w' = w := by
  go_enter Tryz.func76, Tryz.ntmps76
  go_wp2
  go_ret
  exact ⟨rfl, rfl⟩

set_option maxHeartbeats 1000000 in
theorem trim_some (b off c : Nat) (l : List Nat) (hc : l.length ≤ c) (hmax : c ≤ 9223372036854775807) (w : World) (hcs : Cs w b off l) (hsm : Sm l) :
    Calls Tryz.prog 56 #[.slice (some ⟨b, off, none⟩) l.length c] w fun e w' => e = .returned (.slice (some ⟨b, off, none⟩) (digs (dval l)).length c) ∧ w' = w := by
  obtain ⟨n, hn⟩ : ∃ n, n = l.length := ⟨_, rfl⟩
  rw [← hn]
  have HN := Lib.hid hn; clear hn
  have hnc : n ≤ c := by rw [HN.out]; exact hc
  clear hc
  have HC := Lib.hid hcs; have HM := Lib.hid hsm; clear hcs hsm
  go_enter Tryz.func56, Tryz.ntmps56
  go_wp2
  go_loop [3] (fun v => ∃ k : Nat, v = .int .i64 (k : Int) ∧ k ≤ n ∧ Hid (dval (l.take k) = dval l)) (fun v => (intOf v).toNat)
  case atStart => exact ⟨n, rfl, Nat.le_refl _, by show dval (l.take n) = dval l; rw [HN.out, List.take_length]⟩
  case round =>
    obtain ⟨k, rfl, hk, HD⟩ := hrel
    by_cases h0 : k = 0
    · subst h0
      have hd : digs (dval l) = [] := by have := HD.out; rw [← this]; simp [dval, digs_zero]
      have HL : Hid ((digs (dval l)).length = 0) := by show _ = 0; rw [hd]; rfl
      clear hd
      go_wp2
      go_ret
      exact ⟨by rw [HL.out]; rfl, rfl⟩
    · obtain ⟨j, rfl⟩ : ∃ j, k = j + 1 := ⟨k - 1, by omega⟩
      have hcell := HC.out j (by have := HN.out; omega)
      have hlt := HM.out.get j
      by_cases hz : l.getD j 0 = 0
      · have HS : Hid (dval (l.take j) = dval l) := by
          show _ = _
          rw [← HD.out]
          exact (trim_step (n := j + 1) (by omega) (by have := HN.out; omega) hz).symm
        rw [hz] at hcell
        clear hz hlt h0 HD
        go_wp2
        go_round
        case rel => exact ⟨j, by go_num, by omega, HS⟩
        case measure => simp [intOf]
      · have HE : Hid ((digs (dval l)).length = j + 1) := by
          show _ = _
          have h := trim_end (l := l) (n := j + 1) HM.out (by have := HN.out; omega) (fun _ => hz)
          rw [HD.out] at h
          rw [← h, List.length_take, Nat.min_eq_left (by have := HN.out; omega)]
        generalize l.getD j 0 = v at hcell hz hlt
        have hz2 : ((v : Int) == 0) = false := by simpa using hz
        clear hz h0
        go_wp2
        go_ret
        exact ⟨by rw [HE.out]; rfl, rfl⟩

theorem trim_nil (a : Option Addr) (c : Nat) (w : World) :
    Calls Tryz.prog 56 #[.slice a 0 c] w fun e w' => e = .returned (.slice a 0 c) ∧ w' = w := by
  go_enter Tryz.func56, Tryz.ntmps56
  go_wp2
  refine wp_loop_rounds 1 ?_
  rw [rounds_succ]
  go_wp2
  go_ret
  exact ⟨rfl, rfl⟩
/-- trim: the digits of the number, as many as it takes. -/
theorem trim_any (s : Value) (l : List Nat) (w : World) (h : Rd w s l) (hsm : Sm l) :
    Calls Tryz.prog 56 #[s] w fun e w' => ∃ s', e = .returned s' ∧ Rd w s' (digs (dval l)) ∧ w' = w := by
  rcases h with ⟨rfl, a, c, rfl⟩ | ⟨b, off, c, rfl, hc, hlt, hcs⟩
  · refine (trim_nil a c w).mono ?_
    rintro e w' ⟨rfl, rfl⟩
    exact ⟨_, rfl, .inl ⟨by simp [dval, digs_zero], a, c, rfl⟩, rfl⟩
  · refine (trim_some b off c l hc.1 hc.2 w hcs hsm).mono ?_
    rintro e w' ⟨rfl, rfl⟩
    have hle : (digs (dval l)).length ≤ l.length := digs_len.2 (dval_lt hsm)
    refine ⟨_, rfl, .inr ⟨b, off, c, rfl, by omega, hlt, fun i hi => ?_⟩, rfl⟩
    rw [hcs i (by omega), digs_get, dval_get hsm]
end Go.Proofs.YtjlgiejggcbgbaaGreatDoor
