/-
  entrepotlaw4.DyadWrong answers true for every number and every way of spoiling it.
-/
import Derived.Test.YtoibaeilbolffaaGreatDoorDyWrongMath
import Derived.Test.YtoibaeilbolffaaGreatDoorDySame
import Derived.Deep.Cut
import Derived.Deep.DeepCutAuto
namespace Go.Proofs.YtoibaeilbolffaaGreatDoor
open Go.RowKit Go.Shelf

theorem spl_len {D : List UInt8} (h : D.length ≤ 20) (k : Nat) : (spl D k).length ≤ 400 := by
  unfold spl
  split <;> simp only [List.length_cons, List.length_append, List.length_nil] <;> omega
set_option maxHeartbeats 8000000 in
set_option maxRecDepth 20000 in
theorem wrong_walk (n : Nat) (h U : Int) (r : Nat) (hn : n < 2 ^ 64) (hU : IntKind.u64.wrap h = U) (hU0 : 0 ≤ U) (hU1 : U < 18446744073709551616) (hr : U % 20 = (r : Int)) (w : World)
    (k1 : ∀ (T : List UInt8) W, rd T = none → T.length ≤ 400 → Below w.heap.size w W → Calls Tryz.prog 8 #[.string (str T)] W fun e w' => e = .returned (.tuple #[VX 0 0 0, .int .i64 3]) ∧ Below W.heap.size W w')
    (k2 : ∀ W, Below w.heap.size w W → Calls Tryz.prog 8 #[.string (str (Lib.decDigits n))] W fun e w' => e = .returned (.tuple #[VX 3 (n : Int) 0, .int .i64 0]) ∧ Below W.heap.size W w')
    (k3 : ∀ W, Below w.heap.size w W → Calls Tryz.prog 7 #[] W fun e w' => e = .returned (.bool true) ∧ Below W.heap.size W w') :
    Calls Tryz.prog 6 #[.int .u64 (n : Int), .int .i64 h] w fun e w' => e = .returned (.bool true) ∧ Below w.heap.size w w' := by
  have K1 := Lib.hid k1; have K2 := Lib.hid k2; have K3 := Lib.hid k3; clear k1 k2 k3
  have HL := Lib.hid (dec_len (k := 20) (r := n) (by decide) (Nat.lt_trans hn (by decide)))
  have HU := Lib.hid hU; have HR := Lib.hid hr; clear hU hr
  go_enter Tryz.func6, Tryz.ntmps6
  go_wp2
  go_loop [5, 6] (fun s k => ∃ (y : Nat) (l : List UInt8) (S : ByteArray), k = .int .u64 (y : Nat) ∧ s = .string S ∧ Hid (S = str l) ∧ Hid (Lib.decDigits n = Lib.decDigits y ++ l) ∧ y < 18446744073709551616) (fun _ k => (intOf k).toNat)
  case atStart => exact ⟨n, [], ⟨#[]⟩, rfl, rfl, rfl, by unfold Hid; rw [List.append_nil], hn⟩
  case round =>
    obtain ⟨y, l, S, rfl, rfl, HS, HE, hy⟩ := hrel
    obtain ⟨q, hq⟩ : ∃ q, y % 10 = q := ⟨_, rfl⟩
    have hq2 : (y : Int) % 10 = (q : Int) := by omega
    have hq3 : q < 10 := by omega
    have hlen : l.length ≤ 20 := by
      have h1 := congrArg List.length HE.out
      have h2 := HL.out
      rw [List.length_append] at h1
      omega
    have hSs : S.size ≤ 20 := by rw [HS.out, str_size]; exact hlen
    have KD := Lib.hid (fun W => digit_one q hq3 W)
    obtain ⟨c, hc⟩ : ∃ c, str [UInt8.ofNat (48 + q)] = c := ⟨_, rfl⟩
    rw [hc] at KD
    have hcs : c.size = 1 := by rw [← hc]; rfl
    have HC := Lib.hid hc
    clear hc
    by_cases h10 : y < 10
    · have HT : Hid (c ++ S = str (Lib.decDigits n)) := by
        unfold Hid
        rw [← HC.out, HS.out, str_app]
        have := dec_last y h10 (Lib.decDigits n) l HE.out
        rw [this, hq]; rfl
      have hTs : (c ++ S).size ≤ 20 := by rw [HT.out, str_size]; exact HL.out
      obtain ⟨T, hT⟩ : ∃ T, c ++ S = T := ⟨_, rfl⟩
      rw [hT] at HT hTs
      clear hq
      go_wp2_with fail
      (with_reducible refine (KD.out _).mono ?_)
      rintro e w1 ⟨rfl, rfl⟩
      go_upto_region 6 with (fail)
      clear HC KD HS HE hT hcs hSs hlen h10 hq2 hq3 hy
      have k2 := K2.out
      rw [← HT.out] at k2
      have K2' := Lib.hid k2
      clear K2 k2
      obtain ⟨X, hX⟩ : ∃ X, str (spl (Lib.decDigits n) r) = X := ⟨_, rfl⟩
      have HX := Lib.hid hX
      have KX : Hid (∀ W, Below w1.heap.size w1 W → Calls Tryz.prog 8 #[.string X] W fun e w' => e = .returned (.tuple #[VX 0 0 0, .int .i64 3]) ∧ Below W.heap.size W w') := by
        intro W hW
        rw [← HX.out]
        exact K1.out _ W (rd_spoilt (dfig_dec n) (by intro h; have := dec_pos n; rw [h] at this; exact absurd this (by decide)) r) (spl_len HL.out r) hW
      clear K1 hX
      go_upto_region 7 with (fail)
      have hU := HU.out
      have hr := HR.out
      have hr20 : r = 0 ∨ r = 1 ∨ r = 2 ∨ r = 3 ∨ r = 4 ∨ r = 5 ∨ r = 6 ∨ r = 7 ∨ r = 8 ∨ r = 9 ∨ r = 10 ∨ r = 11 ∨ r = 12 ∨ r = 13 ∨ r = 14 ∨ r = 15 ∨ r = 16 ∨ r = 17 ∨ r = 18 ∨ r = 19 := by omega
      clear HU HR
      go_cut [8] (fun v8 wx => v8 = .string X ∧ Below w1.heap.size w1 wx)
      case first =>
        rcases hr20 with rfl | rfl | rfl | rfl | rfl | rfl | rfl | rfl | rfl | rfl | rfl | rfl | rfl | rfl | rfl | rfl | rfl | rfl | rfl | rfl
        all_goals
          go_wp2
          go_meet
          exact ⟨congrArg Value.string (by rw [← HX.out]; first | rfl | (rw [HT.out]; exact str_app _ _)), by repeat (first | (with_reducible exact Below.refl _ _) | (with_reducible refine bal ?_ _) | (with_reducible refine Below.drew ?_))⟩
      case rest =>
        obtain ⟨rfl, hbw⟩ := hcut
        generalize wc = wx at *
        clear hr20 hr hU hU0 hU1 HX
        go_wp2_with fail
        (with_reducible refine (KX.out _ hbw).mono ?_)
        rintro e w2 ⟨rfl, hb⟩
        have hw2 := btr hbw hb
        have VA := RowV.new w2 (.int .i64 0) (.bool false) (.int .u64 0) (.int .u64 0) (.int .u64 0) (.int .u64 0) (.int .u64 0) (.string ⟨#[]⟩) (.slice none 0 0) (.slice none 0 0)
        clear hb hbw KX
        go_wp2_with fail
        (with_reducible refine (K2'.out _ (bal hw2 _)).mono ?_)
        rintro e w3 ⟨rfl, hb⟩
        have hw3 := btr (bal hw2 _) hb
        have VA3 := RowV.keep hb VA
        have VA4 := RowV.alloc VA3 (.cells #[.int .i64 3, .bool false, .int .u64 (n : Int), .int .u64 0, .int .u64 0, .int .u64 0, .int .u64 0, .string ⟨#[]⟩, .slice none 0 0, .slice none 0 0] 31)
        have VB := RowV.new w3 (.int .i64 3) (.bool false) (.int .u64 (n : Int)) (.int .u64 0) (.int .u64 0) (.int .u64 0) (.int .u64 0) (.string ⟨#[]⟩) (.slice none 0 0) (.slice none 0 0)
        clear hb hw2 VA VA3 K2'
        go_wp2_with fail
        (with_reducible refine (K3.out _ (bal hw3 _)).mono ?_)
        rintro e w4 ⟨rfl, hb⟩
        have hw4 := btr (bal hw3 _) hb
        have VA5 := RowV.keep hb VA4
        have VB5 := RowV.keep hb VB
        clear hb hw3 VA4 VB K3
        obtain ⟨c0, c1, c2, c3, c4, c5, c6, c7, c8, c9⟩ := VA5.parts
        go_wp2_with fail
        (with_reducible refine (same_self 0 false 0 0 0 0 0 _).mono ?_)
        rintro e w5 ⟨rfl, hb⟩
        have hw5 := btr hw4 hb
        have VB6 := RowV.keep hb VB5
        clear hb hw4 VA5 VB5 c0 c1 c2 c3 c4 c5 c6 c7 c8 c9
        obtain ⟨c0, c1, c2, c3, c4, c5, c6, c7, c8, c9⟩ := VB6.parts
        go_wp2
        go_ret
        exact ⟨rfl, hw5⟩
    · have HN : Hid (Lib.decDigits n = Lib.decDigits (y / 10) ++ (UInt8.ofNat (48 + q) :: l)) := by
        have := dec_cons y (by omega) (Lib.decDigits n) l HE.out
        rw [hq] at this
        exact this
      have HN2 : Hid (c ++ S = str (UInt8.ofNat (48 + q) :: l)) := by
        unfold Hid
        rw [← HC.out, HS.out, str_app]; rfl
      obtain ⟨z, hz⟩ : ∃ z, y / 10 = z := ⟨_, rfl⟩
      have hz2 : (y : Int) / 10 = (z : Int) := by omega
      rw [hz] at HN
      clear hq
      go_wp2_with fail
      (with_reducible refine (KD.out _).mono ?_)
      rintro e w1 ⟨rfl, rfl⟩
      go_wp2
      go_round
      case rel => exact ⟨z, _, _, by go_num, rfl, HN2, HN, by omega⟩
      case measure => simp [intOf]; omega
end Go.Proofs.YtoibaeilbolffaaGreatDoor
