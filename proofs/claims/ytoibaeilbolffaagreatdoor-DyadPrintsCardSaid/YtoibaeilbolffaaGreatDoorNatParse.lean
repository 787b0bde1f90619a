/-
  nat.Parse: the contract, for all texts (of at most 2^47 bytes).
-/
import Derived.Test.YtoibaeilbolffaaGreatDoorNatDigit
namespace Go.Proofs.YtoibaeilbolffaaGreatDoor
open Go.RowKit Go.Shelf

theorem parse_empty (w : World) (s : ByteArray) (_hs : s.toList.isEmpty = true) (hs2 : s.toList = []) (_hz : (s.size : Int) = 0) : Calls Tryz.prog 43 #[.string s] w fun e w' => e = .returned (.tuple #[Z4, .bool false]) ∧ Below w.heap.size w w' := by
  go_enter Tryz.func43, Tryz.ntmps43
  go_wp2
  exact bodyPost_ret (v := .tuple #[Z4, .bool false]) (by simp [results, Tryz.results43, go_sem]) rfl ⟨rfl, bal (Below.refl _ _) _⟩
theorem parse_nought (w : World) (s : ByteArray) (hs : s.toList.isEmpty = false) (_hs2 : ¬ s.toList = []) (h1 : 1 < (s.size : Int)) (h1' : 0 < s.size) (h0 : ((s[0].toNat : Int) == 48) = true) : Calls Tryz.prog 43 #[.string s] w fun e w' => e = .returned (.tuple #[Z4, .bool false]) ∧ Below w.heap.size w w' := by
  go_enter Tryz.func43, Tryz.ntmps43
  go_wp2
  exact bodyPost_ret (v := .tuple #[Z4, .bool false]) (by simp [results, Tryz.results43, go_sem]) rfl ⟨rfl, bal (Below.refl _ _) _⟩

/-- What nat.Parse answers. -/
def ParseEnd (s : ByteArray) (e : Ending) : Prop := e = match parseN s with
  | some v => .returned (.tuple #[N4 v, .bool true])
  | none => .returned (.tuple #[Z4, .bool false])

set_option maxHeartbeats 1000000 in
theorem parse_one (w : World) (s : ByteArray) (hs : s.toList.isEmpty = false) (_hs2 : ¬ s.toList = []) (h1 : ¬ 1 < (s.size : Int)) (hmax : s.size ≤ 140737488351232) (HS : Hid (dfold (s.data.toList.drop 0) 0 = parseN s)) : Calls Tryz.prog 43 #[.string s] w fun e w' => ParseEnd s e ∧ Below w.heap.size w w' := by
  go_enter Tryz.func43, Tryz.ntmps43
  go_wp2
  go_loopw [22] (fun v wr => ∃ (k x : Nat), k ≤ s.size ∧ v = .int .i64 k ∧ x < 2 ^ 256 ∧ Hid (dfold (s.data.toList.drop k) x = parseN s) ∧ Row4 wr (w.heap.size + 1) (.int .u64 (lb 0 x)) (.int .u64 (lb 1 x)) (.int .u64 (lb 2 x)) (.int .u64 (lb 3 x)) ∧ Row4 wr w.heap.size (.int .u64 0) (.int .u64 0) (.int .u64 0) (.int .u64 0) ∧ Below w.heap.size w wr) (fun v _ => s.size - (intOf v).toNat)
  case atStart => exact ⟨0, 0, Nat.zero_le _, rfl, by decide, HS, by simp only [lb_zero]; exact Row4.new' _ (by simp) _ _ _ _, Row4.alloc (Row4.new _ _ _ _ _) _, bal (bal (Below.refl _ _) _) _⟩
  case round =>
    obtain ⟨k, x, hk, rfl, hx, HD, R1, R2, hw⟩ := hrel
    rename World => wr
    obtain ⟨t0, t1, t2, t3, tf0, tf1, tf2, tf3⟩ := R1.parts
    obtain ⟨z0, z1, z2, z3, zf0, zf1, zf2, zf3⟩ := R2.parts
    by_cases hlt : k < s.size
    · have hdrop : s.data.toList.drop k = s[k] :: s.data.toList.drop (k + 1) := by
        rw [List.drop_eq_getElem_cons (by simpa using hlt)]; rfl
      have HD2 : Hid (dfold (s[k] :: s.data.toList.drop (k + 1)) x = parseN s) := by rw [← hdrop]; exact HD
      clear hdrop HD
      cases hd : dstep x s[k] with
      | none =>
        have HN : Hid (parseN s = none) := by
          have := HD2.out
          simp only [dfold, hd] at this
          exact this.symm
        have C := fun W => digit_no x hx s[k] hd W
        have HC := Lib.hid C
        clear C hd HD2
        have hk0 : (0 : Int) ≤ (k : Int) := by omega
        have hk1 : (k : Int) < (s.size : Int) := by omega
        go_wp2
        go_region_with (go_at_call 78; (with_reducible refine (HC.out _).mono ?_); rintro e w2 ⟨rfl, hb2⟩; have R3 := Row4.keep hb2 (Row4.drew R1); have R4 := Row4.keep hb2 (Row4.drew R2); obtain ⟨r0, r1, r2, r3, f0, f1, f2, f3⟩ := R3.parts; obtain ⟨q0, q1, q2, q3, g0, g1, g2, g3⟩ := R4.parts)
        all_goals
          go_wp2
          refine bodyPost_ret (v := .tuple #[Z4, .bool false]) (by simp [results, Tryz.results43, go_sem, q0, q1, q2, q3]) rfl ⟨by unfold ParseEnd; rw [HN.out], ?_⟩
          exact bsc4 (bsc4 (btr (Below.drew hw) hb2) (by omega) _ _ _ _) (by omega) _ _ _ _
      | some y =>
        have HN : Hid (dfold (s.data.toList.drop (k + 1)) y = parseN s) := by
          have := HD2.out
          simp only [dfold, hd] at this
          exact this
        have hy : y < 2 ^ 256 := dstep_lt hd
        have C := fun W => digit_ok x hx s[k] y hd W
        have HC := Lib.hid C
        clear C hd HD2
        have hk0 : (0 : Int) ≤ (k : Int) := by omega
        have hk1 : (k : Int) < (s.size : Int) := by omega
        go_wp2
        go_region_with (go_at_call 78; (with_reducible refine (HC.out _).mono ?_); rintro e w2 ⟨rfl, hb2⟩; have R3 := Row4.keep hb2 (Row4.drew R1); have R4 := Row4.keep hb2 (Row4.drew R2); obtain ⟨r0, r1, r2, r3, f0, f1, f2, f3⟩ := R3.parts; obtain ⟨q0, q1, q2, q3, g0, g1, g2, g3⟩ := R4.parts)
        all_goals
          go_wp2
          exact ⟨⟨k + 1, y, by omega, by go_num, hy, HN, Row4.set4 R3 _ _ _ _, Row4.set (Row4.set (Row4.set (Row4.set R4 (by omega) _) (by omega) _) (by omega) _) (by omega) _, bsc4 (btr (Below.drew hw) hb2) (by omega) _ _ _ _⟩, by simp [intOf]; omega⟩
    · have HN : Hid (parseN s = some x) := by
        have := HD.out
        rw [List.drop_eq_nil_of_le (by simp; omega)] at this
        exact this.symm
      clear HD
      go_wp2
      refine bodyPost_ret (v := .tuple #[N4 x, .bool true]) (by simp [results, Tryz.results43, go_sem, z0, z1, z2, z3]) rfl ⟨by unfold ParseEnd; rw [HN.out], bsc4 hw (by omega) _ _ _ _⟩

set_option maxHeartbeats 1000000 in
theorem parse_many (w : World) (s : ByteArray) (hs : s.toList.isEmpty = false) (_hs2 : ¬ s.toList = []) (h1 : 1 < (s.size : Int)) (h1' : 0 < s.size) (h0 : ((s[0].toNat : Int) == 48) = false) (hmax : s.size ≤ 140737488351232) (HS : Hid (dfold (s.data.toList.drop 0) 0 = parseN s)) : Calls Tryz.prog 43 #[.string s] w fun e w' => ParseEnd s e ∧ Below w.heap.size w w' := by
  go_enter Tryz.func43, Tryz.ntmps43
  go_wp2
  go_loopw [22] (fun v wr => ∃ (k x : Nat), k ≤ s.size ∧ v = .int .i64 k ∧ x < 2 ^ 256 ∧ Hid (dfold (s.data.toList.drop k) x = parseN s) ∧ Row4 wr (w.heap.size + 1) (.int .u64 (lb 0 x)) (.int .u64 (lb 1 x)) (.int .u64 (lb 2 x)) (.int .u64 (lb 3 x)) ∧ Row4 wr w.heap.size (.int .u64 0) (.int .u64 0) (.int .u64 0) (.int .u64 0) ∧ Below w.heap.size w wr) (fun v _ => s.size - (intOf v).toNat)
  case atStart => exact ⟨0, 0, Nat.zero_le _, rfl, by decide, HS, by simp only [lb_zero]; exact Row4.new' _ (by simp) _ _ _ _, Row4.alloc (Row4.new _ _ _ _ _) _, bal (bal (Below.refl _ _) _) _⟩
  case round =>
    obtain ⟨k, x, hk, rfl, hx, HD, R1, R2, hw⟩ := hrel
    rename World => wr
    obtain ⟨t0, t1, t2, t3, tf0, tf1, tf2, tf3⟩ := R1.parts
    obtain ⟨z0, z1, z2, z3, zf0, zf1, zf2, zf3⟩ := R2.parts
    by_cases hlt : k < s.size
    · have hdrop : s.data.toList.drop k = s[k] :: s.data.toList.drop (k + 1) := by
        rw [List.drop_eq_getElem_cons (by simpa using hlt)]; rfl
      have HD2 : Hid (dfold (s[k] :: s.data.toList.drop (k + 1)) x = parseN s) := by rw [← hdrop]; exact HD
      clear hdrop HD
      cases hd : dstep x s[k] with
      | none =>
        have HN : Hid (parseN s = none) := by
          have := HD2.out
          simp only [dfold, hd] at this
          exact this.symm
        have C := fun W => digit_no x hx s[k] hd W
        have HC := Lib.hid C
        clear C hd HD2
        have hk0 : (0 : Int) ≤ (k : Int) := by omega
        have hk1 : (k : Int) < (s.size : Int) := by omega
        go_wp2
        go_region_with (go_at_call 78; (with_reducible refine (HC.out _).mono ?_); rintro e w2 ⟨rfl, hb2⟩; have R3 := Row4.keep hb2 (Row4.drew R1); have R4 := Row4.keep hb2 (Row4.drew R2); obtain ⟨r0, r1, r2, r3, f0, f1, f2, f3⟩ := R3.parts; obtain ⟨q0, q1, q2, q3, g0, g1, g2, g3⟩ := R4.parts)
        all_goals
          go_wp2
          refine bodyPost_ret (v := .tuple #[Z4, .bool false]) (by simp [results, Tryz.results43, go_sem, q0, q1, q2, q3]) rfl ⟨by unfold ParseEnd; rw [HN.out], ?_⟩
          exact bsc4 (bsc4 (btr (Below.drew hw) hb2) (by omega) _ _ _ _) (by omega) _ _ _ _
      | some y =>
        have HN : Hid (dfold (s.data.toList.drop (k + 1)) y = parseN s) := by
          have := HD2.out
          simp only [dfold, hd] at this
          exact this
        have hy : y < 2 ^ 256 := dstep_lt hd
        have C := fun W => digit_ok x hx s[k] y hd W
        have HC := Lib.hid C
        clear C hd HD2
        have hk0 : (0 : Int) ≤ (k : Int) := by omega
        have hk1 : (k : Int) < (s.size : Int) := by omega
        go_wp2
        go_region_with (go_at_call 78; (with_reducible refine (HC.out _).mono ?_); rintro e w2 ⟨rfl, hb2⟩; have R3 := Row4.keep hb2 (Row4.drew R1); have R4 := Row4.keep hb2 (Row4.drew R2); obtain ⟨r0, r1, r2, r3, f0, f1, f2, f3⟩ := R3.parts; obtain ⟨q0, q1, q2, q3, g0, g1, g2, g3⟩ := R4.parts)
        all_goals
          go_wp2
          exact ⟨⟨k + 1, y, by omega, by go_num, hy, HN, Row4.set4 R3 _ _ _ _, Row4.set (Row4.set (Row4.set (Row4.set R4 (by omega) _) (by omega) _) (by omega) _) (by omega) _, bsc4 (btr (Below.drew hw) hb2) (by omega) _ _ _ _⟩, by simp [intOf]; omega⟩
    · have HN : Hid (parseN s = some x) := by
        have := HD.out
        rw [List.drop_eq_nil_of_le (by simp; omega)] at this
        exact this.symm
      clear HD
      go_wp2
      refine bodyPost_ret (v := .tuple #[N4 x, .bool true]) (by simp [results, Tryz.results43, go_sem, z0, z1, z2, z3]) rfl ⟨by unfold ParseEnd; rw [HN.out], bsc4 hw (by omega) _ _ _ _⟩


theorem toList_data (s : ByteArray) : s.toList = s.data.toList := ByteArray.toList_eq s

/-- nat.Parse. -/
theorem parse_any (w : World) (s : ByteArray) (hmax : s.size ≤ 140737488351232) : Calls Tryz.prog 43 #[.string s] w fun e w' => ParseEnd s e ∧ Below w.heap.size w w' := by
  have hlen : s.data.toList.length = s.size := by simp
  by_cases hz : s.size = 0
  · have hl : s.toList = [] := by rw [toList_data]; exact List.eq_nil_of_length_eq_zero (by omega)
    refine (parse_empty w s (by rw [hl]; rfl) hl (by omega)).mono ?_
    rintro e w' ⟨rfl, hb⟩
    exact ⟨by unfold ParseEnd parseN; rw [if_pos (.inl hz)], hb⟩
  · have hne : ¬ s.toList = [] := by rw [toList_data]; intro h; rw [h] at hlen; exact hz hlen.symm
    have hem : s.toList.isEmpty = false := by
      cases h : s.toList with
      | nil => exact absurd h hne
      | cons _ _ => rfl
    by_cases h1 : s.size ≤ 1
    · exact parse_one w s hem hne (by omega) hmax (by show _ = parseN s; unfold parseN; rw [if_neg (by omega), List.drop_zero])
    · have h0 : 0 < s.size := by omega
      have hh : s.data.toList.head? = some s[0] := by
        cases hd : s.data.toList with
        | nil => rw [hd] at hlen; exact absurd hlen.symm hz
        | cons c l =>
          have : s[0] = s.data.toList[0]'(by omega) := rfl
          rw [this]
          simp [hd]
      by_cases h48 : s[0] = 48
      · refine (parse_nought w s hem hne (by omega) h0 (by rw [h48]; rfl)).mono ?_
        rintro e w' ⟨rfl, hb⟩
        exact ⟨by unfold ParseEnd parseN; rw [if_pos (.inr ⟨by omega, by rw [hh, h48]⟩)], hb⟩
      · have hn : ((s[0].toNat : Int) == 48) = false := by
          rw [beq_eq_false_iff_ne]
          intro h
          exact h48 (UInt8.toNat_inj.1 (by rw [show (48 : UInt8).toNat = 48 from rfl]; omega))
        have hno : ¬ (s.size = 0 ∨ (1 < s.size ∧ s.data.toList.head? = some 48)) := by
          intro h
          rcases h with h | h
          · exact hz h
          · have h2 := h.2
            rw [hh] at h2
            exact h48 (Option.some.inj h2)
        exact parse_many w s hem hne (by omega) h0 hn hmax (by show _ = parseN s; unfold parseN; rw [if_neg hno, List.drop_zero])

end Go.Proofs.YtoibaeilbolffaaGreatDoor
