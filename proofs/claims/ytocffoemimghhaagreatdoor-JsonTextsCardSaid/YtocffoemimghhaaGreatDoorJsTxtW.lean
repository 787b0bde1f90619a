/-
  entrepotlaw7.JsonTexts answers true for any code points, each as itself or escaped.
-/
import Derived.Test.YtocffoemimghhaaGreatDoorJsHex
import Derived.Test.YtocffoemimghhaaGreatDoorJsLongW
namespace Go.Proofs.YtocffoemimghhaaGreatDoor
open Go.RowKit Go.Shelf
set_option linter.unusedVariables false

theorem tq_enc {S T : List UInt8} (h : Tq S T) : Tq (T.flatMap jesc) T := ⟨h.2.1, h.2.1, h.2.2⟩
theorem jt_dec (w : World) (hT : Tabs w) (S T : List UInt8) (hq : Tq S T) (hl : T.length ≤ 400) (hs : S.length ≤ 4000) : ∀ W g cap, Below w.heap.size w W → BytesAt W g 0 (34 :: (S ++ [34])) →
    Calls Tryz.prog 12 #[.slice (some ⟨g, 0, none⟩) (str (34 :: (S ++ [34]))).size cap] W fun e w' => ∃ (la1 : Option Addr) (lc1 : Nat) (ka1 : Option Addr) (kc1 : Nat), e = .returned (.tuple #[V10 5 false 0 0 0 0 0 (str T) la1 0 lc1 ka1 0 kc1, .int .i64 0]) ∧
      (∀ W2, Below w'.heap.size w' W2 → Calls Tryz.prog 9 #[V10 5 false 0 0 0 0 0 (str T) la1 0 lc1 ka1 0 kc1] W2 fun e w2 => ∃ g2 cap, e = .returned (.tuple #[.slice (some ⟨g2, 0, none⟩) (str (jq T)).size cap, .int .i64 0]) ∧ BytesAt w2 g2 0 (jq T) ∧ Below W2.heap.size W2 w2) ∧ Below W.heap.size W w' := by
  intro W g cap hW hB
  have hn : (lf 5 false 0 0 (str T)).nodes ≤ 10000 := by rw [lf_nodes]; omega
  have hsm : (lf 5 false 0 0 (str T)).Every SmallO := lf_small _ _ _ _ _ (by rw [str_size]; omega)
  have hlen : (34 :: (S ++ [34]) : List UInt8).length ≤ 65536 := by rw [List.length_cons, List.length_append, List.length_singleton]; omega
  refine (jdec_good (34 :: (S ++ [34])) hlen g 0 cap _ (str_size _).symm W hB (tb_on hT.2 hW) _ [] rfl hn hsm hq.1.jv (txt_may hq.2.2 (by omega))).mono ?_
  rintro e w' ⟨o, kids, he, hI, _, hE, hb⟩
  obtain ⟨e1, e2, e3, e4, e5, e6, e7⟩ := er_inj_shape (show er (.mk o kids) = .mk _ _ from hE)
  have hk0 : kids = [] := List.map_eq_nil_iff.1 e7
  subst hk0
  have hval : (VT.mk o []).val = V10 5 false 0 0 0 0 0 (str T) o.la 0 o.lcap o.ka 0 o.kcap := by
    show V10 o.kind o.g (lb 0 o.x) (lb 1 o.x) (lb 2 o.x) (lb 3 o.x) o.bits o.text o.la 0 o.lcap o.ka o.keys.length o.kcap = _
    rw [e1, e2, e3, e4, e5, e6]
    simp only [lb_zero]
    rfl
  refine ⟨o.la, o.lcap, o.ka, o.kcap, by rw [he, hval], fun W2 h3 => ?_, hb⟩
  have hj := jenc_any (.mk o []) (by rw [← er_nodes, hE]; exact hn) W2 ⟨hI.keep h3, tb_on (tb_on (tb_on hT.2 hW) hb) h3, er_small (by rw [hE]; exact hsm)⟩ (tabs_on hT (btr (btr hW hb) h3))
  rw [hval] at hj
  refine hj.mono ?_
  rintro e2 w2 ⟨hq2, hb2⟩
  have hm : mayN (VT.mk o []) = 0 := by rw [← er_may, hE]; exact txt_may hq.2.2 (by omega)
  have hnj : hasT notJsonT (VT.mk o []) = false := by rw [← er_hasT _ er_notJson, hE]; exact txt_json T
  have hen : jencT (VT.mk o []) = jq T := by rw [← er_jenc, hE]; exact txt_enc T
  rcases hq2 with ⟨h, _⟩ | ⟨_, h, _⟩ | ⟨_, _, h, _⟩ | ⟨_, _, _, g2, cap2, h, _, h5⟩
  · exact absurd hm h
  · rw [hnj] at h; cases h
  · rw [hen] at h; have := jq_len T; omega
  · rw [hen] at h h5
    rw [str_size]
    exact ⟨g2, cap2, h, h5, hb2⟩
theorem jtexts_told (A : Option Addr) (n cap : Nat) (H : Value) (w : World) (hT : Tabs w) (hn : n ≤ 9223372036854775807) (h : 60 < n) :
    Calls Tryz.prog 4 #[.slice A n cap, H] w fun e w' => e = .returned (.bool true) ∧ Below w.heap.size w w' := by
  have h1 : (60 : Int) < (n : Int) := by omega
  have HT := Lib.hid hT
  clear hT
  go_enter Tryz.func4, Tryz.ntmps4
  go_wp2_with (go_at_call 8; ((with_reducible refine (told7_true _ HT.out).mono ?_); rintro e w1 ⟨rfl, hb1⟩))
  go_ret
  exact ⟨rfl, hb1⟩
/-- The law's code point. -/
theorem code_is {U R : Int} (h : U % 1114112 = R) (h2 : ¬ (55296 ≤ R ∧ R ≤ 57343)) : ∃ c : Nat, (c : Int) = R ∧ ulng c ≠ 0 ∧ c ≤ 1114111 ∧ Utf8.encode R = str (uenc c) := by
  have r0 : 0 ≤ R ∧ R < 1114112 := by omega
  refine ⟨R.toNat, by omega, ?_, by omega, ?_⟩
  · unfold ulng
    rw [if_neg (by omega)]
    (repeat' split) <;> omega
  · have hz : zlng R ≠ 0 := by
      rcases zlng_cases R with h | h | h | h | h | h <;> omega
    rw [encode_put hz, uput_some hz]
    rfl
theorem and1023 (q : Nat) (h : q < 1048576) : bits .and .i64 (q : Int) 1023 = ((q % 1024 : Nat) : Int) := by
  have := i64_and_nat q 1023 (by omega) (by decide)
  show bits .and .i64 (q : Int) ((1023 : Nat) : Int) = _
  rw [this, show (1023 : Nat) = 2 ^ 10 - 1 from rfl, Nat.and_two_pow_sub_one_eq_mod]
set_option maxRecDepth 100000 in
set_option maxHeartbeats 8000000 in
theorem jtexts_core (A : Option Addr) (n cap : Nat) (zs : Nat → Int) (B : Option Addr) (m hcap : Nat) (bs : Nat → Bool) (w : World) (hT : Tabs w) (h60 : n ≤ 60) (hm : m ≤ 9223372036854775807)
    (hcell : ∀ i, i < n → ∃ b off, A = some ⟨b, off, none⟩ ∧ w.cell? ⟨b, off + i, none⟩ = some (.int .i64 (zs i)))
    (hcel2 : ∀ i, i < m → ∃ b off, B = some ⟨b, off, none⟩ ∧ w.cell? ⟨b, off + i, none⟩ = some (.bool (bs i))) :
    Calls Tryz.prog 4 #[.slice A n cap, .slice B m hcap] w fun e w' => e = .returned (.bool true) ∧ Below w.heap.size w w' := by
  have HCELL := Lib.hid hcell; have HCEL2 := Lib.hid hcel2; have HT := Lib.hid hT
  clear hcell hcel2 hT
  have h61 : ¬ (60 : Int) < (n : Int) := by omega
  go_enter Tryz.func4, Tryz.ntmps4
  go_wp2
  go_loopw [5, 6, 7, 8, 9] (fun sv wv iv _ _ wr => ∃ (k : Nat) (SB TB : ByteArray), k ≤ n ∧ iv = .int .i64 k ∧ sv = .string SB ∧ wv = .string TB ∧ (SB.size : Int) ≤ 8388608 ∧ (TB.size : Int) ≤ 8388608 ∧ Hid (SB.size ≤ 1 + 12 * k) ∧ Hid (TB.size ≤ 4 * k) ∧ Hid (∃ S T, Tq S T ∧ SB = str (34 :: S) ∧ TB = str T) ∧ Hid (Below w.heap.size w wr)) (fun _ _ i _ _ _ => n - (intOf i).toNat)
  case atStart => exact ⟨0, ⟨#[34]⟩, ⟨#[]⟩, Nat.zero_le _, rfl, rfl, rfl, by decide, by decide, Lib.hid (by decide), Lib.hid (by decide), Lib.hid ⟨[], [], .nil, rfl, rfl⟩, Lib.hid (Below.refl _ _)⟩
  case round =>
    obtain ⟨k, SB, TB, hk, rfl, rfl, rfl, hS8, hT8, HS, HTB, HQ, BW⟩ := hrel
    rename World => wr
    by_cases hlt : k < n
    · have hlt2 : (k : Int) < (n : Int) := by omega
      obtain ⟨b, off, rfl, hc0⟩ := HCELL.out k hlt
      have hc := cell_keep BW.out hc0
      obtain ⟨z, hz⟩ : ∃ z, zs k = z := ⟨_, rfl⟩
      rw [hz] at hc
      clear hc0 hz
      obtain ⟨U, hU⟩ : ∃ U, IntKind.u64.wrap z = U := ⟨_, rfl⟩
      have u0 : 0 ≤ U ∧ U < 18446744073709551616 := by rw [← hU, IntKind.wrap_u64]; omega
      obtain ⟨u1, u2⟩ := u0
      obtain ⟨R, hR⟩ : ∃ R, U % 1114112 = R := ⟨_, rfl⟩
      have r0 : 0 ≤ R ∧ R < 1114112 := by omega
      obtain ⟨r1, r2⟩ := r0
      by_cases hsur : 55296 ≤ R ∧ R ≤ 57343
      · obtain ⟨q1, q2⟩ := hsur
        go_wp2
        go_roundw
        case rel => exact ⟨k + 1, SB, TB, by omega, by go_num, rfl, rfl, hS8, hT8, Lib.hid (by have := HS.out; omega), Lib.hid (by have := HTB.out; omega), HQ, BW⟩
        case measure => simp [intOf]; omega
      · obtain ⟨c, hcR, hul, hc11, hen⟩ := code_is hR hsur
        have hel := uenc_len hul
        have hel4 := ulng_le c
        obtain ⟨E, hE⟩ : ∃ E, str (uenc c) = E := ⟨_, rfl⟩
        have HE := Lib.hid hE
        rw [hE] at hen
        have hE4 : E.size ≤ 4 := by rw [← hE, str_size]; omega
        have HE4 : Hid (E.size ≤ 4) := Lib.hid hE4
        have hE8 : (E.size : Int) ≤ 8388608 := by omega
        obtain ⟨TB2, hTB⟩ : ∃ X, TB ++ E = X := ⟨_, rfl⟩
        have HTB2 := Lib.hid hTB
        have HTs : Hid (TB2.size ≤ 4 * (k + 1)) := Lib.hid (by rw [← hTB, ByteArray.size_append]; have := HTB.out; omega)
        have hT28 : (TB2.size : Int) ≤ 8388608 := by have := HTs.out; omega
        have hcv : ∀ W : World, (convert 21 9 (.int .i32 R)).run Tryz.prog W = .ok (.string E) W := fun W => (run_convert_int_string W 21 9 .i32 R (by kernel_rfl) (by kernel_rfl)).trans (by rw [hen])
        have HC : Hid ((c : Int) = R ∧ ulng c ≠ 0 ∧ c ≤ 1114111) := Lib.hid ⟨hcR, hul, hc11⟩
        have HNS : Hid (¬ 55296 ≤ R ∨ (55296 ≤ R ∧ ¬ R ≤ 57343)) := Lib.hid (by omega)
        clear hE hen hel hel4 hE4 hul hc11 hcR hsur
        by_cases hw1 : R < 32
        · have w32 : ¬ 32 ≤ R := by omega
          obtain ⟨Q2, hQ2⟩ : ∃ Q, bits .and .i64 (k : Int) 2 = Q := ⟨_, rfl⟩
          obtain ⟨B2, hB2⟩ : ∃ X, (Q2 == 0) = X := ⟨_, rfl⟩
          have hbig : ¬ 65536 ≤ R := by omega
          have hlow : R < 65536 := by omega
          have KH2 := Lib.hid (fun W => lhex_any c (by have := HC.out.1; omega) B2 W)
          rw [HC.out.1] at KH2
          obtain ⟨X2, hX2⟩ : ∃ X, str (hesc B2 c) = X := ⟨_, rfl⟩
          obtain ⟨SB2, hSB2⟩ : ∃ X, SB ++ X2 = X := ⟨_, rfl⟩
          have x2 : X2.size = 6 := by rw [← hX2, str_size, hesc_len]
          have HQ2 : Hid (∃ S T, Tq S T ∧ SB2 = str (34 :: S) ∧ TB2 = str T) := by
            obtain ⟨S, T, hq, f1, f2⟩ := HQ.out
            refine ⟨S ++ hesc B2 c, T ++ uenc c, hq.snoc HC.out.2.1 (pc_hesc B2 HC.out.2.1 (by have := HC.out.1; omega)), ?_, ?_⟩
            · rw [← hSB2, f1, ← hX2, str_app]; rfl
            · rw [← HTB2.out, f2, ← HE.out, str_app]
          have HSs : Hid (SB2.size ≤ 1 + 12 * (k + 1)) := Lib.hid (by rw [← hSB2, ByteArray.size_append]; have := HS.out; omega)
          have hS28 : (SB2.size : Int) ≤ 8388608 := by have := HSs.out; omega
          have hX28 : (X2.size : Int) ≤ 8388608 := by omega
          rw [hX2] at KH2
          clear HQ HE HTB2 HC hX2 x2
          clear HNS
          go_wp2_with (go_at_call 11; ((with_reducible refine (KH2.out _).mono ?_); rintro e w6 ⟨rfl, hbx6⟩))
          go_roundw
          case rel => exact ⟨k + 1, SB2, TB2, by omega, by go_num, rfl, rfl, hS28, hT28, HSs, HTs, HQ2, Lib.hid (btr BW.out hbx6)⟩
          case measure => simp [intOf]; omega
        by_cases hw2 : R = 34
        · subst hw2
          obtain ⟨Q2, hQ2⟩ : ∃ Q, bits .and .i64 (k : Int) 2 = Q := ⟨_, rfl⟩
          obtain ⟨B2, hB2⟩ : ∃ X, (Q2 == 0) = X := ⟨_, rfl⟩


          have KH2 := Lib.hid (fun W => lhex_any c (by have := HC.out.1; omega) B2 W)
          rw [HC.out.1] at KH2
          obtain ⟨X2, hX2⟩ : ∃ X, str (hesc B2 c) = X := ⟨_, rfl⟩
          obtain ⟨SB2, hSB2⟩ : ∃ X, SB ++ X2 = X := ⟨_, rfl⟩
          have x2 : X2.size = 6 := by rw [← hX2, str_size, hesc_len]
          have HQ2 : Hid (∃ S T, Tq S T ∧ SB2 = str (34 :: S) ∧ TB2 = str T) := by
            obtain ⟨S, T, hq, f1, f2⟩ := HQ.out
            refine ⟨S ++ hesc B2 c, T ++ uenc c, hq.snoc HC.out.2.1 (pc_hesc B2 HC.out.2.1 (by have := HC.out.1; omega)), ?_, ?_⟩
            · rw [← hSB2, f1, ← hX2, str_app]; rfl
            · rw [← HTB2.out, f2, ← HE.out, str_app]
          have HSs : Hid (SB2.size ≤ 1 + 12 * (k + 1)) := Lib.hid (by rw [← hSB2, ByteArray.size_append]; have := HS.out; omega)
          have hS28 : (SB2.size : Int) ≤ 8388608 := by have := HSs.out; omega
          have hX28 : (X2.size : Int) ≤ 8388608 := by omega
          rw [hX2] at KH2
          clear HQ HE HTB2 HC hX2 x2
          clear HNS
          go_wp2_with (go_at_call 11; ((with_reducible refine (KH2.out _).mono ?_); rintro e w6 ⟨rfl, hbx6⟩))
          go_roundw
          case rel => exact ⟨k + 1, SB2, TB2, by omega, by go_num, rfl, rfl, hS28, hT28, HSs, HTs, HQ2, Lib.hid (btr BW.out hbx6)⟩
          case measure => simp [intOf]; omega
        by_cases hw3 : R = 92
        · subst hw3
          obtain ⟨Q2, hQ2⟩ : ∃ Q, bits .and .i64 (k : Int) 2 = Q := ⟨_, rfl⟩
          obtain ⟨B2, hB2⟩ : ∃ X, (Q2 == 0) = X := ⟨_, rfl⟩


          have KH2 := Lib.hid (fun W => lhex_any c (by have := HC.out.1; omega) B2 W)
          rw [HC.out.1] at KH2
          obtain ⟨X2, hX2⟩ : ∃ X, str (hesc B2 c) = X := ⟨_, rfl⟩
          obtain ⟨SB2, hSB2⟩ : ∃ X, SB ++ X2 = X := ⟨_, rfl⟩
          have x2 : X2.size = 6 := by rw [← hX2, str_size, hesc_len]
          have HQ2 : Hid (∃ S T, Tq S T ∧ SB2 = str (34 :: S) ∧ TB2 = str T) := by
            obtain ⟨S, T, hq, f1, f2⟩ := HQ.out
            refine ⟨S ++ hesc B2 c, T ++ uenc c, hq.snoc HC.out.2.1 (pc_hesc B2 HC.out.2.1 (by have := HC.out.1; omega)), ?_, ?_⟩
            · rw [← hSB2, f1, ← hX2, str_app]; rfl
            · rw [← HTB2.out, f2, ← HE.out, str_app]
          have HSs : Hid (SB2.size ≤ 1 + 12 * (k + 1)) := Lib.hid (by rw [← hSB2, ByteArray.size_append]; have := HS.out; omega)
          have hS28 : (SB2.size : Int) ≤ 8388608 := by have := HSs.out; omega
          have hX28 : (X2.size : Int) ≤ 8388608 := by omega
          rw [hX2] at KH2
          clear HQ HE HTB2 HC hX2 x2
          clear HNS
          go_wp2_with (go_at_call 11; ((with_reducible refine (KH2.out _).mono ?_); rintro e w6 ⟨rfl, hbx6⟩))
          go_roundw
          case rel => exact ⟨k + 1, SB2, TB2, by omega, by go_num, rfl, rfl, hS28, hT28, HSs, HTs, HQ2, Lib.hid (btr BW.out hbx6)⟩
          case measure => simp [intOf]; omega
        have w32 : 32 ≤ R := by omega
        have m34 : (R != 34) = true := by rw [bne_iff_ne]; exact hw2
        have m92 : (R != 92) = true := by rw [bne_iff_ne]; exact hw3
        by_cases hkm : k < m
        · have hkm2 : ¬ (m : Int) ≤ (k : Int) := by omega
          have hkm3 : (k : Int) < (m : Int) := by omega
          obtain ⟨hb, hoff, rfl, hh0⟩ := HCEL2.out k hkm
          have hh := cell_keep BW.out hh0
          clear hh0
          cases hbk : bs k with
          | true =>
            rw [hbk] at hh
            obtain ⟨Q2, hQ2⟩ : ∃ Q, bits .and .i64 (k : Int) 2 = Q := ⟨_, rfl⟩
            obtain ⟨B2, hB2⟩ : ∃ X, (Q2 == 0) = X := ⟨_, rfl⟩
            by_cases hbig : 65536 ≤ R
            · obtain ⟨Q1, hQ1⟩ : ∃ Q, bits .and .i64 (k : Int) 1 = Q := ⟨_, rfl⟩
              obtain ⟨B1, hB1⟩ : ∃ X, (Q1 == 0) = X := ⟨_, rfl⟩
              obtain ⟨q, hq⟩ : ∃ q : Nat, (q : Int) = R - 65536 := ⟨(R - 65536).toNat, by omega⟩
              have hand := and1023 q (by omega)
              obtain ⟨Q, hQ⟩ : ∃ Q, R - 65536 = Q := ⟨_, rfl⟩
              obtain ⟨P, hP⟩ : ∃ P, Q / 1024 = P := ⟨_, rfl⟩
              obtain ⟨H1, hH1⟩ : ∃ H, 55296 + P = H := ⟨_, rfl⟩
              obtain ⟨L0, hL0⟩ : ∃ L : Int, ((q % 1024 : Nat) : Int) = L := ⟨_, rfl⟩
              obtain ⟨L1, hL1⟩ : ∃ L, 56320 + L0 = L := ⟨_, rfl⟩
              have hQq : (q : Int) = Q := by omega
              rw [hQq, hL0] at hand
              have Q0 : 0 ≤ Q := by omega
              have Q9 : Q < 1048576 := by omega
              have P0 : 0 ≤ P := by omega
              have P9 : P < 1024 := by omega
              have L00 : 0 ≤ L0 := by omega
              have L09 : L0 < 1024 := by omega
              have hcq : c = 65536 + q := by have := HC.out.1; omega
              have e1 : ((55296 + (c - 65536) / 1024 : Nat) : Int) = H1 := by omega
              have e2 : ((56320 + (c - 65536) % 1024 : Nat) : Int) = L1 := by omega
              have KH1 := Lib.hid (fun W => lhex_any (55296 + (c - 65536) / 1024) (by omega) B1 W)
              have KH2 := Lib.hid (fun W => lhex_any (56320 + (c - 65536) % 1024) (by omega) B2 W)
              rw [e1] at KH1
              rw [e2] at KH2
              obtain ⟨X1, hX1⟩ : ∃ X, str (hesc B1 (55296 + (c - 65536) / 1024)) = X := ⟨_, rfl⟩
              obtain ⟨X2, hX2⟩ : ∃ X, str (hesc B2 (56320 + (c - 65536) % 1024)) = X := ⟨_, rfl⟩
              obtain ⟨SB1, hSB1⟩ : ∃ X, SB ++ X1 = X := ⟨_, rfl⟩
              obtain ⟨SB2, hSB2⟩ : ∃ X, SB1 ++ X2 = X := ⟨_, rfl⟩
              have x1 : X1.size = 6 := by rw [← hX1, str_size, hesc_len]
              have x2 : X2.size = 6 := by rw [← hX2, str_size, hesc_len]
              have HQ2 : Hid (∃ S T, Tq S T ∧ SB2 = str (34 :: S) ∧ TB2 = str T) := by
                obtain ⟨S, T, hq, f1, f2⟩ := HQ.out
                refine ⟨S ++ (hesc B1 (55296 + (c - 65536) / 1024) ++ hesc B2 (56320 + (c - 65536) % 1024)), T ++ uenc c, hq.snoc HC.out.2.1 (pc_pair B1 B2 HC.out.2.1 (by omega)), ?_, ?_⟩
                · rw [← hSB2, ← hSB1, f1, ← hX1, ← hX2, str_app, str_app]; simp
                · rw [← HTB2.out, f2, ← HE.out, str_app]
              have HSs : Hid (SB2.size ≤ 1 + 12 * (k + 1)) := Lib.hid (by rw [← hSB2, ← hSB1, ByteArray.size_append, ByteArray.size_append]; have := HS.out; omega)
              have hS28 : (SB2.size : Int) ≤ 8388608 := by have := HSs.out; omega
              have hS18 : (SB1.size : Int) ≤ 8388608 := by rw [← hSB1, ByteArray.size_append]; have := HS.out; omega
              have hX18 : (X1.size : Int) ≤ 8388608 := by omega
              have hX28 : (X2.size : Int) ≤ 8388608 := by omega
              rw [hX1] at KH1
              rw [hX2] at KH2
              clear HQ HE HTB2 HC hq hQq hL0 hcq e1 e2 hX1 hX2 x1 x2
              go_wp2_with (first | (go_at_call 11; ((with_reducible refine (KH1.out _).mono ?_); rintro e w5 ⟨rfl, hbx5⟩)) | (go_at_call 11; ((with_reducible refine (KH2.out _).mono ?_); rintro e w6 ⟨rfl, hbx6⟩)))
              go_roundw
              case rel => exact ⟨k + 1, SB2, TB2, by omega, by go_num, rfl, rfl, hS28, hT28, HSs, HTs, HQ2, Lib.hid (btr (btr BW.out hbx5) hbx6)⟩
              case measure => simp [intOf]; omega
            · have hlow : R < 65536 := by omega
              have KH2 := Lib.hid (fun W => lhex_any c (by have := HC.out.1; omega) B2 W)
              rw [HC.out.1] at KH2
              obtain ⟨X2, hX2⟩ : ∃ X, str (hesc B2 c) = X := ⟨_, rfl⟩
              obtain ⟨SB2, hSB2⟩ : ∃ X, SB ++ X2 = X := ⟨_, rfl⟩
              have x2 : X2.size = 6 := by rw [← hX2, str_size, hesc_len]
              have HQ2 : Hid (∃ S T, Tq S T ∧ SB2 = str (34 :: S) ∧ TB2 = str T) := by
                obtain ⟨S, T, hq, f1, f2⟩ := HQ.out
                refine ⟨S ++ hesc B2 c, T ++ uenc c, hq.snoc HC.out.2.1 (pc_hesc B2 HC.out.2.1 (by have := HC.out.1; omega)), ?_, ?_⟩
                · rw [← hSB2, f1, ← hX2, str_app]; rfl
                · rw [← HTB2.out, f2, ← HE.out, str_app]
              have HSs : Hid (SB2.size ≤ 1 + 12 * (k + 1)) := Lib.hid (by rw [← hSB2, ByteArray.size_append]; have := HS.out; omega)
              have hS28 : (SB2.size : Int) ≤ 8388608 := by have := HSs.out; omega
              have hX28 : (X2.size : Int) ≤ 8388608 := by omega
              rw [hX2] at KH2
              clear HQ HE HTB2 HC hX2 x2
              rcases HNS.out with hs1 | ⟨hs1, hs2⟩
              all_goals
                clear HNS
                go_wp2_with (go_at_call 11; ((with_reducible refine (KH2.out _).mono ?_); rintro e w6 ⟨rfl, hbx6⟩))
                go_roundw
                case rel => exact ⟨k + 1, SB2, TB2, by omega, by go_num, rfl, rfl, hS28, hT28, HSs, HTs, HQ2, Lib.hid (btr BW.out hbx6)⟩
                case measure => simp [intOf]; omega
          | false =>
            rw [hbk] at hh
            obtain ⟨SB2, hSB⟩ : ∃ X, SB ++ E = X := ⟨_, rfl⟩
            have HQ2 : Hid (∃ S T, Tq S T ∧ SB2 = str (34 :: S) ∧ TB2 = str T) := by
              obtain ⟨S, T, hq, e1, e2⟩ := HQ.out
              refine ⟨S ++ uenc c, T ++ uenc c, hq.snoc HC.out.2.1 (pc_plain HC.out.2.1 (by have := HC.out.1; omega) (by have := HC.out.1; omega) (by have := HC.out.1; omega)), ?_, ?_⟩
              · rw [← hSB, e1, ← HE.out, str_app]; rfl
              · rw [← HTB2.out, e2, ← HE.out, str_app]
            have HSs : Hid (SB2.size ≤ 1 + 12 * (k + 1)) := Lib.hid (by rw [← hSB, ByteArray.size_append]; have := HS.out; have h9 : E.size ≤ 4 := HE4.out; omega)
            have hS28 : (SB2.size : Int) ≤ 8388608 := by have := HSs.out; omega
            clear HQ HE HTB2 HC
            rcases HNS.out with hs1 | ⟨hs1, hs2⟩
            all_goals
              clear HNS
              go_wp2
              go_roundw
              case rel => exact ⟨k + 1, SB2, TB2, by omega, by go_num, rfl, rfl, hS28, hT28, HSs, HTs, HQ2, BW⟩
              case measure => simp [intOf]; omega
        · have hkm2 : (m : Int) ≤ (k : Int) := by omega
          obtain ⟨SB2, hSB⟩ : ∃ X, SB ++ E = X := ⟨_, rfl⟩
          have HQ2 : Hid (∃ S T, Tq S T ∧ SB2 = str (34 :: S) ∧ TB2 = str T) := by
            obtain ⟨S, T, hq, e1, e2⟩ := HQ.out
            refine ⟨S ++ uenc c, T ++ uenc c, hq.snoc HC.out.2.1 (pc_plain HC.out.2.1 (by have := HC.out.1; omega) (by have := HC.out.1; omega) (by have := HC.out.1; omega)), ?_, ?_⟩
            · rw [← hSB, e1, ← HE.out, str_app]; rfl
            · rw [← HTB2.out, e2, ← HE.out, str_app]
          have HSs : Hid (SB2.size ≤ 1 + 12 * (k + 1)) := Lib.hid (by rw [← hSB, ByteArray.size_append]; have := HS.out; have h9 : E.size ≤ 4 := HE4.out; omega)
          have hS28 : (SB2.size : Int) ≤ 8388608 := by have := HSs.out; omega
          clear HQ HE HTB2 HC
          rcases HNS.out with hs1 | ⟨hs1, hs2⟩
          all_goals
            clear HNS
            go_wp2
            go_roundw
            case rel => exact ⟨k + 1, SB2, TB2, by omega, by go_num, rfl, rfl, hS28, hT28, HSs, HTs, HQ2, BW⟩
            case measure => simp [intOf]; omega
    · have hge : ¬ (k : Int) < (n : Int) := by omega
      obtain rfl : k = n := by omega
      obtain ⟨S, T, hq, hSB, hTBT⟩ := HQ.out
      have hSl : S.length ≤ 4000 := by have := HS.out; rw [hSB, str_size, List.length_cons] at this; omega
      have hTl : T.length ≤ 400 := by have := HTB.out; rw [hTBT, str_size] at this; omega
      have HD1 := Lib.hid (jt_dec w HT.out S T hq hTl hSl)
      have HD2 := Lib.hid (jt_dec w HT.out _ T (tq_enc hq) hTl (by have := jescs_len T; omega))
      rw [← hTBT] at HD1 HD2
      have hq1 : SB ++ ⟨#[34]⟩ = str (34 :: (S ++ [34])) := by rw [hSB, show (⟨#[34]⟩ : ByteArray) = str [34] from rfl, str_app]; rfl
      have h34 : ((⟨#[34]⟩ : ByteArray).size : Int) ≤ 8388608 := by decide
      have hc1 := Lib.run_convert_string_bytes (P := Tryz.prog) wr 9 33 5 (str (34 :: (S ++ [34]))) (u := .string) (by kernel_rfl) (by kernel_rfl) (by kernel_rfl)
      have HY1 := Lib.hid (by_world wr (34 :: (S ++ [34])))
      have HZ1 := Lib.hid (below_bytes wr 5 (str (34 :: (S ++ [34]))))
      obtain ⟨cp1, hcp1⟩ : ∃ cp, grownCap wr (str (34 :: (S ++ [34]))).size 0 5 = cp := ⟨_, rfl⟩
      obtain ⟨W1, hW1⟩ : ∃ W1, Lib.bytesWorld wr 5 (str (34 :: (S ++ [34]))) = W1 := ⟨_, rfl⟩
      rw [hcp1, hW1] at hc1
      rw [hW1] at HY1 HZ1
      have KD1 := Lib.hid (HD1.out W1 wr.heap.size cp1 (btr BW.out HZ1.out) HY1.out)
      obtain ⟨SQ, hSQ⟩ : ∃ SQ, str (34 :: (S ++ [34])) = SQ := ⟨_, rfl⟩
      rw [hSQ] at hq1 hc1 KD1
      have hseq : (TB.toList == TB.toList) = true := by simp
      clear hcp1 hW1 HY1 hSQ HD1 hSB hTBT
      go_wp2_with fail
      ((with_reducible refine (KD1.out).mono ?_); rintro e w1 ⟨la1, lc1, ka1, kc1, rfl, ke, hb1⟩)
      have BW1 : Hid (Below w.heap.size w (w1.alloc (.cells #[.int .i64 5, .bool false, .int .u64 0, .int .u64 0, .int .u64 0, .int .u64 0, .int .u64 0, .string TB, .slice la1 0 lc1, .slice ka1 0 kc1] 30))) := Lib.hid (bal (btr (btr BW.out HZ1.out) hb1) _)
      have R1 := Lib.hid (Row10.new w1 (.int .i64 5) (.bool false) (.int .u64 0) (.int .u64 0) (.int .u64 0) (.int .u64 0) (.int .u64 0) (.string TB) (.slice la1 0 lc1) (.slice ka1 0 kc1))
      have KE := Lib.hid (ke (w1.alloc (.cells #[.int .i64 5, .bool false, .int .u64 0, .int .u64 0, .int .u64 0, .int .u64 0, .int .u64 0, .string TB, .slice la1 0 lc1, .slice ka1 0 kc1] 30)) (bal (Below.refl _ _) _))
      obtain ⟨p0, p1, p2, p3, p4, p5, p6, p7, p8, p9⟩ := R1.out.parts
      clear hb1 ke hc1 hq1 KD1 HZ1
      go_wp2_with fail
      ((with_reducible refine (KE.out).mono ?_); rintro e w2 ⟨g2, cap2, rfl, hy2, hb2⟩)
      have BW2 := Lib.hid (btr BW1.out hb2)
      have R2 := Lib.hid (Row10.keep hb2 R1.out)
      have KD2 := Lib.hid (HD2.out w2 g2 cap2 BW2.out hy2)
      have hjq : str (34 :: (List.flatMap jesc T ++ [34])) = str (jq T) := rfl
      rw [hjq] at KD2
      clear hb2 hy2 KE p0 p1 p2 p3 p4 p5 p6 p7 p8 p9 hjq
      go_wp2_with fail
      ((with_reducible refine (KD2.out).mono ?_); rintro e w3 ⟨la2, lc2, ka2, kc2, rfl, _, hb3⟩)
      have BW3 : Hid (Below w.heap.size w (w3.alloc (.cells #[.int .i64 5, .bool false, .int .u64 0, .int .u64 0, .int .u64 0, .int .u64 0, .int .u64 0, .string TB, .slice la2 0 lc2, .slice ka2 0 kc2] 30))) := Lib.hid (bal (btr BW2.out hb3) _)
      have R3 := Lib.hid ((Row10.keep hb3 R2.out).alloc (.cells #[.int .i64 5, .bool false, .int .u64 0, .int .u64 0, .int .u64 0, .int .u64 0, .int .u64 0, .string TB, .slice la2 0 lc2, .slice ka2 0 kc2] 30))
      have Q3 := Lib.hid (Row10.new w3 (.int .i64 5) (.bool false) (.int .u64 0) (.int .u64 0) (.int .u64 0) (.int .u64 0) (.int .u64 0) (.string TB) (.slice la2 0 lc2) (.slice ka2 0 kc2))
      have KT := Lib.hid (told7_true (w3.alloc (.cells #[.int .i64 5, .bool false, .int .u64 0, .int .u64 0, .int .u64 0, .int .u64 0, .int .u64 0, .string TB, .slice la2 0 lc2, .slice ka2 0 kc2] 30)) (tabs_on HT.out BW3.out))
      clear hb3 KD2
      go_wp2_with (go_at_call 8; ((with_reducible refine (KT.out).mono ?_); rintro e w4 ⟨rfl, hb4⟩; have R4 := Row10.keep hb4 R3.out; have Q4 := Row10.keep hb4 Q3.out; have B4 := Lib.hid (btr BW3.out hb4); obtain ⟨p0, p1, p2, p3, p4, p5, p6, p7, p8, p9⟩ := R4.parts; obtain ⟨q0, q1, q2, q3, q4, q5, q6, q7, q8, q9⟩ := Q4.parts; clear hb4))
      go_ret
      exact ⟨by simp, B4.out⟩
end Go.Proofs.YtocffoemimghhaaGreatDoor
