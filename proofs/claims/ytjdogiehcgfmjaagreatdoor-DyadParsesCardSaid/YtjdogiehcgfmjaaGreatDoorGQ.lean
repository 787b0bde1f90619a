/-
  DySplit DyNumMath DyNumW DyNumC DyNumJ DyParsesW, one behind the other: a claim holds at most 60 files.
-/
import Derived.Test.YtjdogiehcgfmjaaGreatDoorGP
import Derived.Deep.Cut
import Derived.Deep.DeepCutAuto
import Derived.Test.YtjdogiehcgfmjaaGreatDoorDyPartsAny
import Derived.Test.YtjdogiehcgfmjaaGreatDoorFWAny
import Derived.Test.YtjdogiehcgfmjaaGreatDoorGN
import Derived.Test.YtjdogiehcgfmjaaGreatDoorDySame
import Derived.Test.YtjdogiehcgfmjaaGreatDoorDyTold
section
namespace Go.Proofs.YtjdogiehcgfmjaaGreatDoor
open Go.RowKit Go.Shelf

/-- An exponent's text, and what is left; none: there is an e without digits. -/
def spx : List UInt8 → Option (List UInt8 × List UInt8)
  | [] => some ([], [])
  | c :: u => if c = 101 ∨ c = 69 then (if figs (dsgn u).2 = [] then none else some (u.take (u.length - (rst (dsgn u).2).length), rst (dsgn u).2)) else some ([], c :: u)
/-- A number's parts. -/
def spl (l : List UInt8) : Option (Bool × List UInt8 × List UInt8 × List UInt8) :=
  if figs (mns l).2 = [] ∨ (1 < (figs (mns l).2).length ∧ (figs (mns l).2).take 1 = [48]) then none
  else if (bhd (rst (mns l).2)).2.2 = false then none
  else match spx (bhd (rst (mns l).2)).2.1 with
    | none => none
    | some (x, r) => if r = [] then some ((mns l).1, figs (mns l).2, (bhd (rst (mns l).2)).1, x) else none
theorem spx_cons (c : UInt8) (u : List UInt8) : spx (c :: u) = if c = 101 ∨ c = 69 then (if figs (dsgn u).2 = [] then none else some (u.take (u.length - (rst (dsgn u).2).length), rst (dsgn u).2)) else some ([], c :: u) := rfl
def SplitIs (o : Option (Bool × List UInt8 × List UInt8 × List UInt8)) (w : World) (e : Ending) (w' : World) : Prop :=
  match o with
  | none => (∃ (g : Bool) (s1 s2 s3 : ByteArray), e = .returned (.tuple #[.bool g, .string s1, .string s2, .string s3, .bool false])) ∧ w' = w
  | some (g, a, f, x) => e = .returned (.tuple #[.bool g, .string (str a), .string (str f), .string (str x), .bool true]) ∧ w' = w

/-- A byte of a text, by what stands there. -/
theorem byte_drop {t : List UInt8} {k : Nat} {c : UInt8} {u : List UInt8} (h : t.drop k = c :: u) : k < t.length ∧ t.drop (k + 1) = u ∧ ∀ h2 : k < (str t).size, (str t)[k].toNat = c.toNat := by
  have hk : k < t.length := by
    rcases Nat.lt_or_ge k t.length with h1 | h1
    · exact h1
    · rw [List.drop_of_length_le h1] at h; cases h
  rw [List.drop_eq_getElem_cons hk] at h
  injection h with h1 h2
  exact ⟨hk, h2, fun h3 => by rw [byte_at t k h3, h1]⟩
theorem str_mid (t : List UInt8) (a b : Nat) : (str t).extract a b = str ((t.take b).drop a) := by
  apply str_ext
  rw [str_data]
  simp [str, ByteArray.data_extract, List.extract_eq_take_drop]
  rw [List.drop_take]

set_option maxRecDepth 100000 in
set_option maxHeartbeats 4000000 in
theorem split_walk (l t : List UInt8) (g : Bool) (hl : l.length ≤ 1000) (hm : mns l = (g, t)) (o : Option (Bool × List UInt8 × List UInt8 × List UInt8)) (ho : spl l = o) (w : World) :
    Calls Tryz.prog 35 #[.string (str l)] w (SplitIs o w) := by
  have htl : t.length ≤ l.length := by have := mns_len l; rw [hm] at this; exact this
  have KR : Hid (∀ p, p ≤ t.length → ∀ W, Calls Tryz.prog 81 #[.string (str t), .int .i64 (p : Int)] W fun e w' => e = .returned (.int .i64 ((p + (figs (t.drop p)).length : Nat) : Int)) ∧ w' = W) := fun p hp W => rrun t (by omega) p hp W
  have hts := str_size t
  obtain ⟨T, hT⟩ : ∃ T, str t = T := ⟨_, rfl⟩
  have HTT := Lib.hid hT
  rw [hT] at KR hts
  have hls := str_size l
  -- the sign
  have hsign : (g = true ∧ 0 < (str l).size ∧ (∀ h : 0 < (str l).size, (str l)[0].toNat = 45) ∧ (str l).extract 1 (str l).size = T) ∨ (g = false ∧ str l = T ∧ ((str l).size = 0 ∨ (0 < (str l).size ∧ ∀ h : 0 < (str l).size, ¬ (str l)[0].toNat = 45))) := by
    by_cases h : ∃ u, l = 45 :: u
    · obtain ⟨u, rfl⟩ := h
      have e : mns (45 :: u) = (true, u) := rfl
      rw [e] at hm
      cases hm
      obtain ⟨f1, f2, f3, f4, f5⟩ := cons_facts 45 t
      exact .inl ⟨rfl, f3, fun h => by rw [f4 h]; rfl, by rw [f5, hT]⟩
    · rw [mns_no h] at hm
      cases hm
      refine .inr ⟨rfl, hT, ?_⟩
      cases l with
      | nil => exact .inl (by rw [hls]; rfl)
      | cons c u =>
        obtain ⟨f1, f2, f3, f4, f5⟩ := cons_facts c u
        refine .inr ⟨f3, fun h => ?_⟩
        rw [f4 h]
        intro hc
        exact absurd ⟨u, by rw [UInt8.toNat_inj.1 (show c.toNat = (45 : UInt8).toNat from hc)]⟩ ‹¬ ∃ u_1, c :: u = 45 :: u_1›
  have HS := Lib.hid hsign
  have HO := Lib.hid ho
  have HM := Lib.hid hm
  have hTm : T.size ≤ 1000 := by omega
  obtain ⟨L, hL⟩ : ∃ L, str l = L := ⟨_, rfl⟩
  rw [hL] at HS hls ⊢
  have hLm : L.size ≤ 1000 := by omega
  clear hsign ho hm hL hT
  go_enter Tryz.func35, Tryz.ntmps35
  go_upto_region 1 with (fail)
  go_cut [7] (fun s7 wx => s7 = .bool g ∧ Hid (wx = w))
  case first =>
    rcases HS.out with ⟨rfl, h0, hc, hLT⟩ | ⟨rfl, hLT, h0 | ⟨h0, hc⟩⟩ <;> clear hLT
    · have h0i : (0 : Int) < (L.size : Int) := by omega
      have hx := hc h0
      go_wp2_with fail
      go_meet
      exact ⟨rfl, Lib.hid rfl⟩
    · have h0i : ¬ (0 : Int) < (L.size : Int) := by omega
      go_wp2_with fail
      go_meet
      exact ⟨rfl, Lib.hid rfl⟩
    · have h0i : (0 : Int) < (L.size : Int) := by omega
      obtain ⟨x0, hx⟩ : ∃ x0, L[0].toNat = x0 := ⟨_, rfl⟩
      have hx2 : ((x0 : Int) == 45) = false := by have := hc h0; rw [beq_eq_false_iff_ne]; omega
      clear hc
      go_wp2_with fail
      go_meet
      exact ⟨rfl, Lib.hid rfl⟩
  case rest =>
    obtain ⟨rfl, hwc⟩ := hcut
    have hwc' := hwc.out
    rw [hwc']
    clear hwc hwc'
    go_upto_if 23 with (fail)
    go_cut [0] (fun s0 wx => s0 = .string T ∧ Hid (wx = w))
    case first =>
      rcases HS.out with ⟨rfl, h0, hc, he⟩ | ⟨rfl, he, _⟩
      · have h0i : (1 : Int) ≤ (L.size : Int) := by omega
        rw [hls] at he
        go_wp2_with fail
        go_meet
        exact ⟨rfl, Lib.hid rfl⟩
      · subst he
        go_wp2_with fail
        go_meet
        exact ⟨rfl, Lib.hid rfl⟩
    case rest =>
      obtain ⟨rfl, hwc⟩ := hcut
      have hwc' := hwc.out
      rw [hwc']
      clear hwc hwc'
      clear HS
      -- the digits ahead
      obtain ⟨at1, hat1⟩ : ∃ at1, (figs t).length = at1 := ⟨_, rfl⟩
      have ha1 : at1 ≤ T.size := by rw [hts, ← hat1]; have := figs_len t; omega
      have kr0 : ∀ W, Calls Tryz.prog 81 #[.string T, .int .i64 0] W fun e w' => e = .returned (.int .i64 (at1 : Int)) ∧ w' = W := fun W => by
        have := KR.out 0 (Nat.zero_le _) W
        rw [List.drop_zero, hat1, Nat.zero_add] at this
        exact this
      have KR0 := Lib.hid kr0
      have HAT := Lib.hid hat1
      clear kr0 hat1
      by_cases hz : at1 = 0
      · subst hz
        have HN : Hid (o = none) := by
          show _ = _
          rw [← HO.out]
          unfold spl
          rw [HM.out, if_pos (.inl (List.eq_nil_of_length_eq_zero HAT.out))]
        go_wp2_with fail
        ((with_reducible refine (KR0.out _).mono ?_); rintro e w1 ⟨rfl, hw1⟩; rw [hw1]; clear hw1 w1)
        go_wp2
        exact bodyPost_ret (v := .tuple #[.bool false, .string ⟨#[]⟩, .string ⟨#[]⟩, .string ⟨#[]⟩, .bool false]) (by simp [results, Tryz.results35, go_sem]) rfl (by rw [HN.out]; exact ⟨⟨_, _, _, _, rfl⟩, rfl⟩)
      -- a nought ahead of digits
      have ha0 : ((at1 : Int) == 0) = false := by rw [beq_eq_false_iff_ne]; omega
      have h0T : 0 < T.size := by omega
      obtain ⟨x0, hx0⟩ : ∃ x0, T[0].toNat = x0 := ⟨_, rfl⟩
      have hhead : (figs t).take 1 = [48] ↔ x0 = 48 := by
        have hTT := HTT.out
        subst hTT
        have hl0 : 0 < t.length := by omega
        rw [byte_at t 0 h0T] at hx0
        cases t with
        | nil => simp at hl0
        | cons c u =>
          simp only [List.getElem_cons_zero] at hx0
          have hf : figs (c :: u) = if dfig c then c :: figs u else [] := by unfold figs; rw [List.takeWhile_cons]
          have hd : dfig c = true := by
            cases hd : dfig c with
            | true => rfl
            | false => rw [hd] at hf; have := HAT.out; rw [hf] at this; simp at this; omega
          rw [hf, if_pos hd]
          simp only [List.take_succ_cons, List.take_zero, List.cons.injEq, and_true]
          constructor
          · intro h; rw [h] at hx0; exact hx0.symm
          · intro h; exact UInt8.toNat_inj.1 (by rw [hx0, h]; rfl)
      by_cases hbad : 1 < at1 ∧ x0 = 48
      · obtain ⟨hb1, rfl⟩ := hbad
        have HN : Hid (o = none) := by
          show _ = _
          rw [← HO.out]
          unfold spl
          rw [HM.out, if_pos (.inr ⟨by rw [HAT.out]; exact hb1, hhead.2 rfl⟩)]
        have hb1i : (1 : Int) < (at1 : Int) := by omega
        have h0i : (0 : Int) < (T.size : Int) := by omega
        clear hhead
        go_wp2_with fail
        ((with_reducible refine (KR0.out _).mono ?_); rintro e w1 ⟨rfl, hw1⟩; rw [hw1]; clear hw1 w1)
        go_wp2
        exact bodyPost_ret (v := .tuple #[.bool false, .string ⟨#[]⟩, .string ⟨#[]⟩, .string ⟨#[]⟩, .bool false]) (by simp [results, Tryz.results35, go_sem]) rfl (by rw [HN.out]; exact ⟨⟨_, _, _, _, rfl⟩, rfl⟩)
      have HG : Hid (¬ (figs t = [] ∨ (1 < (figs t).length ∧ (figs t).take 1 = [48]))) := fun h => by
        rcases h with h | ⟨h, h2⟩
        · exact hz (by rw [← HAT.out, h]; rfl)
        · exact hbad ⟨by rw [← HAT.out]; exact h, hhead.1 h2⟩
      have hA : T.extract 0 at1 = str (figs t) := by
        rw [← HTT.out, str_take, ← figs_take t]
        congr 2
        have := figs_len t
        have := HAT.out
        omega
      have HA := Lib.hid hA
      clear hA hhead
      have hq : (1 < at1 → ((x0 : Int) == 48) = false) := fun h => by rw [beq_eq_false_iff_ne]; intro e; exact hbad ⟨h, by omega⟩
      go_wp2_with fail
      ((with_reducible refine (KR0.out _).mono ?_); rintro e w1 ⟨rfl, hw1⟩; rw [hw1]; clear hw1 w1)
      go_upto_region 5 with (fail)
      go_cut [38] (fun s38 wx => s38 = .bool false ∧ Hid (wx = w))
      case first =>
        by_cases h1 : 1 < at1
        · have h1i : (1 : Int) < (at1 : Int) := by omega
          have hq1 := hq h1
          have h0i : (0 : Int) < (T.size : Int) := by omega
          clear hq
          go_wp2_with fail
          go_meet
          exact ⟨rfl, Lib.hid rfl⟩
        · have h1i : ¬ (1 : Int) < (at1 : Int) := by omega
          clear hq
          go_wp2_with fail
          go_meet
          exact ⟨rfl, Lib.hid rfl⟩
      case rest =>
      obtain ⟨rfl, hwc⟩ := hcut
      have hwc' := hwc.out
      rw [hwc']
      clear hwc hwc' hq hx0
      -- the digits behind the point
      have hrst : t.drop at1 = rst t := by
        have h2 := List.drop_left (l₁ := figs t) (l₂ := rst t)
        rw [figs_rst] at h2
        rw [HAT.out] at h2
        exact h2
      obtain ⟨r2, f2, ok2, hb⟩ : ∃ r2 f2 ok2, bhd (rst t) = (f2, r2, ok2) := ⟨_, _, _, rfl⟩
      cases ok2 with
      | false =>
        have HN : Hid (o = none) := by
          show _ = _
          rw [← HO.out]
          unfold spl
          rw [HM.out, if_neg HG.out, hb, if_pos rfl]
        have hpt : ∃ u, rst t = 46 :: u := by
          refine Classical.byContradiction fun h => ?_
          rw [bhd_no h] at hb
          cases hb
        obtain ⟨u, hu⟩ := hpt
        rw [hu, bhd_yes] at hb
        rw [hu] at hrst
        obtain ⟨hk, hdr, hby⟩ := byte_drop hrst
        have hf : figs u = [] := by
          cases hfu : figs u with
          | nil => rfl
          | cons a b => rw [hfu] at hb; simp at hb
        have kr := KR.out (at1 + 1) (by omega)
        rw [hdr, hf, List.length_nil, Nat.add_zero, show ((at1 + 1 : Nat) : Int) = (at1 : Int) + 1 by omega] at kr
        have hlt : at1 < T.size := by omega
        have hlti : (at1 : Int) < (T.size : Int) := by omega
        have h46 : T[at1].toNat = 46 := by
          have hTT := HTT.out
          subst hTT
          exact hby hlt
        have KR1 := Lib.hid kr
        clear kr hby hb hdr hrst hf hu
        have hx1 : at1 + 1 ≤ T.size := by omega
        have hx1i : (at1 : Int) + 1 ≤ (T.size : Int) := by omega
        have hemp : T.extract (at1 + 1) (at1 + 1) = ⟨#[]⟩ := by
          rw [← HTT.out, str_mid]
          apply str_ext
          rw [str_data]
          simp
        go_wp2_with fail
        ((with_reducible refine (KR1.out _).mono ?_); rintro e w1 ⟨rfl, hw1⟩; rw [hw1]; clear hw1 w1)
        go_wp2
        exact bodyPost_ret (v := .tuple #[.bool false, .string ⟨#[]⟩, .string ⟨#[]⟩, .string ⟨#[]⟩, .bool false]) (by simp [results, Tryz.results35, go_sem]) rfl (by rw [HN.out]; exact ⟨⟨_, _, _, _, rfl⟩, rfl⟩)
      | true =>
        -- the point's digits, or none
        have hpt : ∃ (pt : Bool) (at2 : Nat), t.drop at2 = r2 ∧ at2 ≤ t.length ∧ ((pt = true ∧ ∃ u, rst t = 46 :: u ∧ figs u ≠ [] ∧ f2 = figs u ∧ at2 = at1 + 1 + (figs u).length) ∨ (pt = false ∧ f2 = [] ∧ at2 = at1 ∧ (rst t = [] ∨ ∃ c u, rst t = c :: u ∧ c.toNat ≠ 46))) := by
          by_cases h : ∃ u, rst t = 46 :: u
          · obtain ⟨u, hu⟩ := h
            rw [hu, bhd_yes] at hb
            rw [hu] at hrst
            obtain ⟨hk, hdr, _⟩ := byte_drop hrst
            have h1 := List.drop_left (l₁ := figs u) (l₂ := rst u)
            rw [figs_rst] at h1
            have hfl := figs_len u
            have hdl : u.length = t.length - (at1 + 1) := by rw [← hdr, List.length_drop]
            injection hb with e1 e2
            injection e2 with e2 e3
            refine ⟨true, at1 + 1 + (figs u).length, ?_, by omega, .inl ⟨rfl, u, hu, fun (hn : figs u = []) => (by rw [hn] at e3; cases e3), e1.symm, rfl⟩⟩
            rw [← List.drop_drop, hdr, h1, e2]
          · rw [bhd_no h] at hb
            injection hb with e1 e2
            injection e2 with e2 e3
            refine ⟨false, at1, by rw [hrst, e2], by omega, .inr ⟨rfl, e1.symm, rfl, ?_⟩⟩
            cases hr : rst t with
            | nil => exact .inl rfl
            | cons c u => exact .inr ⟨c, u, rfl, fun hc => h ⟨u, by rw [hr, UInt8.toNat_inj.1 (show c.toNat = (46 : UInt8).toNat from hc)]⟩⟩
        obtain ⟨pt, at2, hr2, ha2, hcase⟩ := hpt
        have HR2 := Lib.hid hr2
        have HCS := Lib.hid hcase
        have HB := Lib.hid hb
        have HRS := Lib.hid hrst
        clear hr2 hcase hb hrst
        go_upto_region 8 with (fail)
        go_cut [51] (fun s51 wx => s51 = .bool pt ∧ Hid (wx = w))
        case first =>
          rcases HCS.out with ⟨rfl, u, hu, _⟩ | ⟨rfl, _, _, hu | ⟨c, u, hu, hc⟩⟩
          · have hrst := HRS.out
            rw [hu] at hrst
            obtain ⟨hk, _, hby⟩ := byte_drop hrst
            have hlt : at1 < T.size := by omega
            have hlti : (at1 : Int) < (T.size : Int) := by omega
            have h46 : T[at1].toNat = 46 := by
              have hTT := HTT.out
              subst hTT
              exact hby hlt
            clear hby hrst hu
            go_wp2_with fail
            go_meet
            exact ⟨rfl, Lib.hid rfl⟩
          · have hrst := HRS.out
            rw [hu] at hrst
            have hge : ¬ (at1 : Int) < (T.size : Int) := by have := congrArg List.length hrst; simp at this; omega
            clear hrst hu
            go_wp2_with fail
            go_meet
            exact ⟨rfl, Lib.hid rfl⟩
          · have hrst := HRS.out
            rw [hu] at hrst
            obtain ⟨hk, _, hby⟩ := byte_drop hrst
            have hlt : at1 < T.size := by omega
            have hlti : (at1 : Int) < (T.size : Int) := by omega
            have h46 : ((T[at1].toNat : Int) == 46) = false := by
              have hTT := HTT.out
              subst hTT
              rw [hby hlt, beq_eq_false_iff_ne]
              omega
            clear hby hrst hu hc
            go_wp2_with fail
            go_meet
            exact ⟨rfl, Lib.hid rfl⟩
        case rest =>
        obtain ⟨rfl, hwc⟩ := hcut
        have hwc' := hwc.out
        rw [hwc']
        clear hwc hwc'
        go_upto_if 51 with (fail)
        go_cut [8, 10] (fun s8 s10 wx => s8 = .int .i64 at2 ∧ s10 = .string (str f2) ∧ Hid (wx = w))
        case first =>
          rcases HCS.out with ⟨rfl, u, hu, hne, hf2, hen⟩ | ⟨rfl, rfl, rfl, _⟩
          · have hrst := HRS.out
            rw [hu] at hrst
            obtain ⟨hk, hdr, _⟩ := byte_drop hrst
            have kr := KR.out (at1 + 1) (by omega)
            rw [hdr, ← hen, show ((at1 + 1 : Nat) : Int) = (at1 : Int) + 1 by omega] at kr
            have hfl := figs_len u
            have hdl : u.length = t.length - (at1 + 1) := by rw [← hdr, List.length_drop]
            have hB : T.extract (at1 + 1) at2 = str f2 := by
              rw [← HTT.out, str_mid, hf2, ← figs_take u]
              congr 1
              rw [List.drop_take, hdr]
              congr 1
              omega
            rw [← hf2] at hne
            have hB3 : (str f2).toList.isEmpty = false := by
              rw [str_toList]
              cases hh : f2 with
              | nil => exact absurd hh hne
              | cons => rfl
            have hB4 : ¬ (str f2).toList = [] := by rw [str_toList]; exact hne
            have hlt1 : at1 + 1 ≤ at2 := by omega
            have hlt2 : at2 ≤ T.size := by omega
            have hlt1i : (at1 : Int) + 1 ≤ (at2 : Int) := by omega
            have hlt2i : (at2 : Int) ≤ (T.size : Int) := by omega
            have KR1 := Lib.hid kr
            clear kr hdr hrst hu hne hen hfl hdl hf2
            go_wp2_with fail
            ((with_reducible refine (KR1.out _).mono ?_); rintro e w1 ⟨rfl, hw1⟩; rw [hw1]; clear hw1 w1)
            go_wp2_with fail
            go_meet
            exact ⟨rfl, rfl, Lib.hid rfl⟩
          · go_wp2_with fail
            go_meet
            exact ⟨rfl, rfl, Lib.hid rfl⟩
        case rest =>
        obtain ⟨rfl, rfl, hwc⟩ := hcut
        have hwc' := hwc.out
        rw [hwc']
        clear hwc hwc'
        have HO2 : Hid (o = match spx r2 with | none => none | some (x, r) => if r = [] then some (g, figs t, f2, x) else none) := by
          show _ = _
          rw [← HO.out]
          unfold spl
          rw [HM.out, if_neg HG.out, HB.out, if_neg (by simp)]
        clear HO HM HG HB HRS HCS KR0
        -- the exponent
        cases hr : r2 with
        | nil =>
          have hsz : at2 = T.size := by have := congrArg List.length HR2.out; rw [hr] at this; simp at this; omega
          have hge : ¬ (at2 : Int) < (T.size : Int) := by omega
          have hq : ((at2 : Int) == (T.size : Int)) = true := by rw [beq_iff_eq]; omega
          have HN : Hid (o = some (g, figs t, f2, [])) := by
            show _ = _
            rw [HO2.out, hr]
            rfl
          have hq2 : (at2 : Int) = (t.length : Int) := by omega
          clear hsz
          have hA := HA.out
          go_wp2
          exact bodyPost_ret (v := .tuple #[.bool g, .string (str (figs t)), .string (str f2), .string ⟨#[]⟩, .bool true]) (by simp [results, Tryz.results35, go_sem]) rfl (by rw [HN.out]; exact ⟨rfl, rfl⟩)
        | cons c u =>
          have hr2 := HR2.out
          rw [hr] at hr2
          obtain ⟨hk, hdr, hby⟩ := byte_drop hr2
          have hlt : at2 < T.size := by omega
          have hlti : (at2 : Int) < (T.size : Int) := by omega
          have hcb : T[at2].toNat = c.toNat := by
            have hTT := HTT.out
            subst hTT
            exact hby hlt
          obtain ⟨xc, hxc⟩ : ∃ xc, c.toNat = xc := ⟨_, rfl⟩
          rw [hxc] at hcb
          by_cases hc : xc = 101 ∨ xc = 69
          · have hcc : c = 101 ∨ c = 69 := by
              rcases hc with h | h
              · exact .inl (UInt8.toNat_inj.1 (by rw [hxc, h]; rfl))
              · exact .inr (UInt8.toNat_inj.1 (by rw [hxc, h]; rfl))
            have HC := Lib.hid hc
            clear hby hr2 hxc hc
            go_upto_region 14 with (fail)
            go_cut [79] (fun s79 wx => s79 = .bool true ∧ Hid (wx = w))
            case first =>
              rcases HC.out with rfl | rfl
              · go_wp2_with fail
                go_meet
                exact ⟨rfl, Lib.hid rfl⟩
              · go_wp2_with fail
                go_meet
                exact ⟨rfl, Lib.hid rfl⟩
            case rest =>
            obtain ⟨rfl, hwc⟩ := hcut
            have hwc' := hwc.out
            rw [hwc']
            clear hwc hwc'
            clear hcb HC
            -- the sign
            have hsg : ∃ (sg : Bool) (from2 : Nat), t.drop from2 = (dsgn u).2 ∧ from2 ≤ t.length ∧ at2 + 1 ≤ from2 ∧ ((sg = true ∧ from2 = at2 + 1 + 1 ∧ ∃ y z, u = y :: z ∧ (y.toNat = 43 ∨ y.toNat = 45)) ∨ (sg = false ∧ from2 = at2 + 1 ∧ (u = [] ∨ ∃ y z, u = y :: z ∧ y.toNat ≠ 43 ∧ y.toNat ≠ 45))) := by
              by_cases h1 : ∃ z, u = 45 :: z
              · obtain ⟨z, rfl⟩ := h1
                obtain ⟨hk2, hdr2, _⟩ := byte_drop hdr
                exact ⟨true, at2 + 1 + 1, hdr2, by omega, by omega, .inl ⟨rfl, rfl, 45, z, rfl, .inr rfl⟩⟩
              · by_cases h2 : ∃ z, u = 43 :: z
                · obtain ⟨z, rfl⟩ := h2
                  obtain ⟨hk2, hdr2, _⟩ := byte_drop hdr
                  exact ⟨true, at2 + 1 + 1, hdr2, by omega, by omega, .inl ⟨rfl, rfl, 43, z, rfl, .inl rfl⟩⟩
                · refine ⟨false, at2 + 1, by rw [dsgn_no h1 h2]; exact hdr, by omega, by omega, .inr ⟨rfl, rfl, ?_⟩⟩
                  cases hu : u with
                  | nil => exact .inl rfl
                  | cons y z => exact .inr ⟨y, z, rfl, fun e => h2 ⟨z, by rw [hu, UInt8.toNat_inj.1 (show y.toNat = (43 : UInt8).toNat from e)]⟩, fun e => h1 ⟨z, by rw [hu, UInt8.toNat_inj.1 (show y.toNat = (45 : UInt8).toNat from e)]⟩⟩
            obtain ⟨sg, from2, hfr, hfl, hfa, hsc⟩ := hsg
            have HSC := Lib.hid hsc
            have HDR := Lib.hid hdr
            have HFR := Lib.hid hfr
            clear hsc hdr hfr
            go_upto_region 16 with (fail)
            go_cut [97] (fun s97 wx => s97 = .bool sg ∧ Hid (wx = w))
            case first =>
              rcases HSC.out with ⟨rfl, _, y, z, hu, hy⟩ | ⟨rfl, _, hu | ⟨y, z, hu, hy1, hy2⟩⟩
              · have hd := HDR.out
                rw [hu] at hd
                obtain ⟨hk2, _, hby2⟩ := byte_drop hd
                have hlt2 : at2 + 1 < T.size := by omega
                have hlt2i : (at2 : Int) + 1 < (T.size : Int) := by omega
                have hyb : T[at2 + 1].toNat = y.toNat := by
                  have hTT := HTT.out
                  subst hTT
                  exact hby2 hlt2
                clear hby2 hd hu
                rcases hy with hy | hy
                · rw [hy] at hyb
                  go_wp2_with fail
                  go_meet
                  exact ⟨rfl, Lib.hid rfl⟩
                · rw [hy] at hyb
                  go_wp2_with fail
                  go_meet
                  exact ⟨rfl, Lib.hid rfl⟩
              · have hd := congrArg List.length HDR.out
                rw [hu] at hd
                have hge2 : ¬ (at2 : Int) + 1 < (T.size : Int) := by simp at hd; omega
                clear hd hu
                go_wp2_with fail
                go_meet
                exact ⟨rfl, Lib.hid rfl⟩
              · have hd := HDR.out
                rw [hu] at hd
                obtain ⟨hk2, _, hby2⟩ := byte_drop hd
                have hlt2 : at2 + 1 < T.size := by omega
                have hlt2i : (at2 : Int) + 1 < (T.size : Int) := by omega
                have hyb : T[at2 + 1].toNat = y.toNat := by
                  have hTT := HTT.out
                  subst hTT
                  exact hby2 hlt2
                obtain ⟨xy, hxy⟩ : ∃ xy, y.toNat = xy := ⟨_, rfl⟩
                rw [hxy] at hyb hy1 hy2
                have hn1 : ((xy : Int) == 43) = false := by rw [beq_eq_false_iff_ne]; omega
                have hn2 : ((xy : Int) == 45) = false := by rw [beq_eq_false_iff_ne]; omega
                clear hby2 hd hu hxy
                go_wp2_with fail
                go_meet
                exact ⟨rfl, Lib.hid rfl⟩
            case rest =>
            obtain ⟨rfl, hwc⟩ := hcut
            have hwc' := hwc.out
            rw [hwc']
            clear hwc hwc'
            go_upto_if 97 with (fail)
            go_cut [13] (fun s13 wx => s13 = .int .i64 from2 ∧ Hid (wx = w))
            case first =>
              rcases HSC.out with ⟨rfl, hf2, _⟩ | ⟨rfl, hf2, _⟩
              · have HF2 := Lib.hid hf2
                clear hf2
                have hb2 : at2 ≤ 1000 := by omega
                clear hfl hfa
                go_wp2_with fail
                go_meet
                exact ⟨congrArg (Value.int .i64) (by have := HF2.out; omega), Lib.hid rfl⟩
              · have HF2 := Lib.hid hf2
                clear hf2
                have hb2 : at2 ≤ 1000 := by omega
                clear hfl hfa
                go_wp2_with fail
                go_meet
                exact ⟨congrArg (Value.int .i64) (by have := HF2.out; omega), Lib.hid rfl⟩
            case rest =>
            obtain ⟨rfl, hwc⟩ := hcut
            have hwc' := hwc.out
            rw [hwc']
            clear hwc hwc'
            -- its digits
            obtain ⟨en, hen⟩ : ∃ en, from2 + (figs (dsgn u).2).length = en := ⟨_, rfl⟩
            have kr := KR.out from2 hfl
            rw [HFR.out, hen] at kr
            have KR2 := Lib.hid kr
            have HEN := Lib.hid hen
            clear kr hen
            by_cases hds : figs (dsgn u).2 = []
            · have HN : Hid (o = none) := by
                show _ = _
                rw [HO2.out, hr]
                rw [spx_cons, if_pos hcc, if_pos hds]
              have hq : ((en : Int) == (from2 : Int)) = true := by rw [beq_iff_eq]; have := HEN.out; rw [hds] at this; simp at this; omega
              go_wp2_with fail
              ((with_reducible refine (KR2.out _).mono ?_); rintro e w1 ⟨rfl, hw1⟩; rw [hw1]; clear hw1 w1)
              go_wp2
              exact bodyPost_ret (v := .tuple #[.bool false, .string ⟨#[]⟩, .string ⟨#[]⟩, .string ⟨#[]⟩, .bool false]) (by simp [results, Tryz.results35, go_sem]) rfl (by rw [HN.out]; exact ⟨⟨_, _, _, _, rfl⟩, rfl⟩)
            · have hlen := figs_len (dsgn u).2
              have hpos : 0 < (figs (dsgn u).2).length := by
                cases hh : figs (dsgn u).2 with
                | nil => exact absurd hh hds
                | cons => simp
              have hvl : (dsgn u).2.length = t.length - from2 := by rw [← HFR.out, List.length_drop]
              have hul : u.length = t.length - (at2 + 1) := by rw [← HDR.out, List.length_drop]
              have hen := HEN.out
              have hq : ((en : Int) == (from2 : Int)) = false := by rw [beq_eq_false_iff_ne]; omega
              have hx1 : at2 + 1 ≤ en := by omega
              have hx2 : en ≤ T.size := by omega
              have hx1i : (at2 : Int) + 1 ≤ (en : Int) := by omega
              have hx2i : (en : Int) ≤ (T.size : Int) := by omega
              have hX : T.extract (at2 + 1) en = str (u.take (u.length - (rst (dsgn u).2).length)) := by
                rw [← HTT.out, str_mid, List.drop_take, HDR.out]
                congr 2
                omega
              have HNE : Hid (o = if rst (dsgn u).2 = [] then some (g, figs t, f2, u.take (u.length - (rst (dsgn u).2).length)) else none) := by
                show _ = _
                rw [HO2.out, hr, spx_cons, if_pos hcc, if_neg hds]
              by_cases hrr : rst (dsgn u).2 = []
              · have HN : Hid (o = some (g, figs t, f2, u.take (u.length - (rst (dsgn u).2).length))) := by
                  show _ = _
                  rw [HNE.out, if_pos hrr]
                have hq3 : ((en : Int) == (T.size : Int)) = true := by
                  rw [beq_iff_eq]
                  have h0 : (rst (dsgn u).2).length = 0 := by rw [hrr]; rfl
                  omega
                have hq4 : (en : Int) = (t.length : Int) := by rw [beq_iff_eq] at hq3; omega
                obtain ⟨X, hXX⟩ : ∃ X, u.take (u.length - (rst (dsgn u).2).length) = X := ⟨_, rfl⟩
                rw [hXX] at hX HN
                have hX2 : T.extract (at2 + 1) t.length = str X := by rw [← hX]; congr 1; omega
                clear hlen hpos hvl hul hen hrr HNE hXX hds
                have hA := HA.out
                go_wp2_with fail
                ((with_reducible refine (KR2.out _).mono ?_); rintro e w1 ⟨rfl, hw1⟩; rw [hw1]; clear hw1 w1)
                go_wp2
                exact bodyPost_ret (v := .tuple #[.bool g, .string (str (figs t)), .string (str f2), .string (str X), .bool true]) (by simp [results, Tryz.results35, go_sem]) rfl (by rw [HN.out]; exact ⟨rfl, rfl⟩)
              · have HN : Hid (o = none) := by
                  show _ = _
                  rw [HNE.out, if_neg hrr]
                have hrp : 0 < (rst (dsgn u).2).length := by
                  cases hh : rst (dsgn u).2 with
                  | nil => exact absurd hh hrr
                  | cons => simp
                have hq3 : ((en : Int) == (T.size : Int)) = false := by rw [beq_eq_false_iff_ne]; omega
                have hq4 : ¬ (en : Int) = (t.length : Int) := by rw [beq_eq_false_iff_ne] at hq3; omega
                obtain ⟨X, hXX⟩ : ∃ X, u.take (u.length - (rst (dsgn u).2).length) = X := ⟨_, rfl⟩
                rw [hXX] at hX
                clear hlen hpos hvl hul hen hrr HNE hXX hds hrp
                have hA := HA.out
                go_wp2_with fail
                ((with_reducible refine (KR2.out _).mono ?_); rintro e w1 ⟨rfl, hw1⟩; rw [hw1]; clear hw1 w1)
                go_wp2
                exact bodyPost_ret (v := .tuple #[.bool g, .string (str (figs t)), .string (str f2), .string (str X), .bool false]) (by simp [results, Tryz.results35, go_sem, hq4]) rfl (by rw [HN.out]; exact ⟨⟨_, _, _, _, rfl⟩, rfl⟩)
          · have hn1 : ((xc : Int) == 101) = false := by rw [beq_eq_false_iff_ne]; intro e; exact hc (.inl (by omega))
            have hn2 : ((xc : Int) == 69) = false := by rw [beq_eq_false_iff_ne]; intro e; exact hc (.inr (by omega))
            have hq : ((at2 : Int) == (T.size : Int)) = false := by rw [beq_eq_false_iff_ne]; omega
            have HN : Hid (o = none) := by
              show _ = _
              rw [HO2.out, hr, spx_cons, if_neg (fun h => hc (by rcases h with h | h <;> (rw [h] at hxc; rw [← hxc]; decide)))]
              rfl
            have hq2 : ¬ (at2 : Int) = (t.length : Int) := by omega
            clear hby hr2 hxc hc
            have hA := HA.out
            go_wp2
            exact bodyPost_ret (v := .tuple #[.bool g, .string (str (figs t)), .string (str f2), .string ⟨#[]⟩, .bool false]) (by simp [results, Tryz.results35, go_sem, hq2, hA]) rfl (by rw [HN.out]; exact ⟨⟨_, _, _, _, rfl⟩, rfl⟩)
end Go.Proofs.YtjdogiehcgfmjaaGreatDoor
end
section
namespace Go.Proofs.YtjdogiehcgfmjaaGreatDoor
open Go.RowKit Go.Shelf

theorem isD_of {c : UInt8} (h : dfig c = true) : isD c := by unfold dfig at h; unfold isD; exact of_decide_eq_true h
theorem dgs_all : ∀ (l : List UInt8) (x : Nat), (∀ c ∈ l, dfig c = true) → ∃ v, dgs l x = some v
  | [], x, _ => ⟨x, rfl⟩
  | c :: l, x, h => by
    obtain ⟨v, hv⟩ := dgs_all l (x * 10 + (c.toNat - 48)) (fun d hd => h d (by simp [hd]))
    exact ⟨v, by rw [dgs, if_pos (isD_of (h c (by simp)))]; exact hv⟩
theorem dgs_noughts : ∀ (z x : Nat), dgs (List.replicate z 48) x = some (x * 10 ^ z)
  | 0, x => by simp [dgs]
  | z + 1, x => by
    rw [List.replicate_succ, dgs, if_pos (isD_of (by decide)), show x * 10 + ((48 : UInt8).toNat - 48) = x * 10 from by simp, dgs_noughts z (x * 10), Nat.pow_succ]
    congr 1
    rw [Nat.mul_assoc, Nat.mul_comm 10]
theorem dgs_tl0 : ∀ (l : List UInt8), dgs (tl0 l) 0 = dgs l 0
  | [] => rfl
  | c :: l => by
    unfold tl0
    rw [List.dropWhile_cons]
    split
    · rename_i h
      have hc : c = 48 := by simpa using h
      subst hc
      rw [show dgs (48 :: l) 0 = dgs l 0 from by rw [dgs, if_pos (isD_of (by decide))]; rfl]
      exact dgs_tl0 l
    · rfl
theorem tr0_split (l : List UInt8) : l = tr0 l ++ List.replicate (l.length - (tr0 l).length) 48 := by
  unfold tr0
  have h1 := List.takeWhile_append_dropWhile (p := (· == (48 : UInt8))) (l := l.reverse)
  have h2 : l = (l.reverse.dropWhile (· == 48)).reverse ++ (l.reverse.takeWhile (· == 48)).reverse := by
    rw [← List.reverse_append, h1, List.reverse_reverse]
  have h3 : (l.reverse.takeWhile (· == (48 : UInt8))).reverse = List.replicate (l.reverse.takeWhile (· == (48 : UInt8))).length 48 := by
    rw [List.eq_replicate_iff]
    refine ⟨by simp, fun b hb => ?_⟩
    have hb2 : b ∈ l.reverse.takeWhile (· == (48 : UInt8)) := by simpa using hb
    have := List.all_takeWhile (p := (· == (48 : UInt8))) (l := l.reverse)
    rw [List.all_eq_true] at this
    simpa using this b hb2
  have h4 : l.length - (l.reverse.dropWhile (· == (48 : UInt8))).reverse.length = (l.reverse.takeWhile (· == (48 : UInt8))).length := by
    have := congrArg List.length h2
    simp only [List.length_append, List.length_reverse] at this ⊢
    omega
  rw [h4, ← h3]
  exact h2
theorem tr0_last {l E : List UInt8} {c : UInt8} (h : tr0 l = E ++ [c]) : c ≠ 48 := by
  unfold tr0 at h
  have h1 : l.reverse.dropWhile (· == (48 : UInt8)) = c :: E.reverse := by
    have := congrArg List.reverse h
    simpa using this
  intro hc
  have h2 : ∀ (m : List UInt8), m.dropWhile (· == (48 : UInt8)) = c :: E.reverse → False := by
    intro m
    induction m with
    | nil => intro h; cases h
    | cons d u ih =>
      intro h
      rw [List.dropWhile_cons] at h
      split at h
      · exact ih h
      · rename_i hd
        injection h with h5 h6
        exact hd (by rw [h5, hc]; rfl)
  exact h2 _ h1
/-- What digits are as a number: 0, or a number that does not end with a nought, by a power of ten. -/
theorem num_digits (D : List UInt8) (hD : ∀ c ∈ D, dfig c = true) :
    (tl0 (tr0 D) = [] ∧ dgs D 0 = some 0) ∨ (∃ n, dgs D 0 = some (n * 10 ^ (D.length - (tr0 D).length)) ∧ n % 10 ≠ 0 ∧ tl0 (tr0 D) ≠ [] ∧ parseN (str (tl0 (tr0 D))) = if n < 2 ^ 256 then some n else none) := by
  have hs := tr0_split D
  have hD2 : ∀ c ∈ tr0 D, dfig c = true := fun c hc => hD c (by rw [hs]; exact List.mem_append_left _ hc)
  obtain ⟨n, hn⟩ := dgs_all (tr0 D) 0 hD2
  have hN : dgs D 0 = some (n * 10 ^ (D.length - (tr0 D).length)) := by
    conv => lhs; rw [hs]
    rw [dgs_app, hn]
    exact dgs_noughts _ _
  cases hl : (tr0 D).reverse with
  | nil =>
    have h0 : tr0 D = [] := by simpa using hl
    rw [h0] at hn
    have : n = 0 := by simp only [dgs] at hn; cases hn; rfl
    subst this
    exact .inl ⟨by rw [h0]; rfl, by rw [hN, Nat.zero_mul]⟩
  | cons c E =>
    have h0 : tr0 D = E.reverse ++ [c] := by
      have := congrArg List.reverse hl
      simpa using this
    have hc := tr0_last h0
    have hcd := dfig_bounds (hD2 c (by rw [h0]; simp))
    have hc2 : c.toNat ≠ 48 := fun h => hc (UInt8.toNat_inj.1 h)
    have hmod : n % 10 ≠ 0 := by
      obtain ⟨y, hy⟩ := dgs_all E.reverse 0 (fun d hd => hD2 d (by rw [h0]; exact List.mem_append_left _ hd))
      rw [h0, dgs_app, hy] at hn
      simp only [dgs] at hn
      rw [if_pos (isD_of (hD2 c (by rw [h0]; simp)))] at hn
      injection hn with hn
      omega
    have hn2 : dgs (tl0 (tr0 D)) 0 = some n := by rw [dgs_tl0, hn]
    have hne : tl0 (tr0 D) ≠ [] := fun h => by
      rw [h] at hn2
      simp only [dgs] at hn2
      injection hn2 with h3
      omega
    refine .inr ⟨n, hN, hmod, hne, ?_⟩
    rw [parseN_dgs, str_data, hn2, if_neg]
    · rfl
    · rintro (h | ⟨_, h⟩)
      · rw [str_size] at h
        exact hne (List.eq_nil_of_length_eq_zero h)
      · cases ht : tl0 (tr0 D) with
        | nil => exact hne ht
        | cons d u =>
          rw [ht] at h
          simp at h
          exact tl0_head ht h

/-- pack, of an odd number by a power of two below 1. -/
theorem rpack_frac (g : Bool) {d m K : Nat} (hd : d = 2 * m + 1) (hl : d.log2 ≤ 52) (hK : K ≤ 64) (ld : (digs d).length ≤ 1000) {s : Value} {w : World} (hs : DR w s d) :
    Calls Tryz.prog 42 #[.bool g, s, .int .i64 (-(K : Int)), .int .i64 53, .int .i64 11] w fun e w' => e = .returned (.tuple #[.int .u64 ((g.toNat * 9223372036854775808 + nr d (-(K : Int)) : Nat) : Int), .bool true]) ∧ Below w.heap.size w w' := by
  have h0 : d ≠ 0 := by omega
  have hM := top_bounds h0 hl
  rw [show (2 : Nat) ^ 52 = 4503599627370496 from by decide, show (2 : Nat) ^ (52 + 1) = 9007199254740992 from by decide] at hM
  have hd53 : d < 9007199254740992 := by
    have : d * 1 ≤ d * 2 ^ (52 - d.log2) := Nat.mul_le_mul_left _ (Nat.two_pow_pos _)
    omega
  refine pack53_norm g s d d 0 (blen d) (blen d) (-(K : Int)) _ w hs (by omega) (by omega) (by omega) (by rw [beq_eq_false_iff_ne, blen_log h0]; omega) (by rw [blen_log h0]; omega) (by rw [blen_log h0]; omega) (by rw [blen_log h0]; omega) (by rw [blen_log h0]; omega) (by omega)
    (fun s' W h => same_under (rlen h ld)) (fun s' W h => same_under (rtrail h ld (k := 0) (m := m) (by omega) (by omega))) (fun s' W h => ?_) (fun s' W h => same_under (rlen h ld)) (fun s' W h => ?_) ?_
  · have := rshift h ld 0 (by decide) (by decide)
    unfold shv at this
    rw [if_pos (by decide)] at this
    have e2 : d * 2 ^ (0 : Int).toNat = d := by simp
    rw [e2] at this
    exact this
  · have := rnat h
    rw [if_pos (by omega)] at this
    exact this
  · have l0 : lb 0 d = (d : Int) := by rw [lb0]; omega
    have hbl : 53 - blen d = 52 - d.log2 := by rw [blen_log h0]; omega
    rw [l0, hbl]
    have hw : IntKind.u64.wrap ((d : Int) * 2 ^ (52 - d.log2)) = ((d * 2 ^ (52 - d.log2) : Nat) : Int) := by
      rw [show (d : Int) * 2 ^ (52 - d.log2) = ((d * 2 ^ (52 - d.log2) : Nat) : Int) from by rw [Int.natCast_mul, Int.natCast_pow]; rfl]
      generalize d * 2 ^ (52 - d.log2) = M at hM
      rw [IntKind.wrap_u64]; omega
    rw [hw, mask_bits (by omega)]
    have hf : (-(K : Int) + ((0 : Nat) : Int) + (blen d : Int) - 1 + 1023) * 4503599627370496 = (((d.log2 + 1023 - K) * 4503599627370496 : Nat) : Int) := by
      rw [blen_log h0]; omega
    have hsg : (if g = true then (9223372036854775808 : Int) else 0) = ((g.toNat * 9223372036854775808 : Nat) : Int) := by cases g <;> rfl
    rw [hf, hsg, sum_bits (by cases g <;> decide) (by omega) (by omega)]
    unfold nr
    rw [show (-(K : Int) + (d.log2 : Nat) + 1022).toNat = d.log2 + 1022 - K from by omega]
    generalize d * 2 ^ (52 - d.log2) = M at hM
    exact congrArg (fun n : Nat => (n : Int)) (by omega)
/-- pack, of an odd number that is too long. -/
theorem rpack_long (g : Bool) {d m K : Nat} (hd : d = 2 * m + 1) (hl : 52 < d.log2) (hl2 : d.log2 ≤ 1500) (hK : K ≤ 64) (ld : (digs d).length ≤ 1000) {s : Value} {w : World} (hs : DR w s d) :
    Calls Tryz.prog 42 #[.bool g, s, .int .i64 (-(K : Int)), .int .i64 53, .int .i64 11] w fun e w' => e = .returned (.tuple #[.int .u64 0, .bool false]) ∧ Below w.heap.size w w' := by
  have h0 : d ≠ 0 := by omega
  refine pack53_long g s d d 0 (blen d) (blen d) (-(K : Int)) w hs (by omega) (by omega) (by omega) (by rw [beq_eq_false_iff_ne, blen_log h0]; omega) (by rw [blen_log h0]; omega) (by rw [blen_log h0]; omega)
    (fun s' W h => same_under (rlen h ld)) (fun s' W h => same_under (rtrail h ld (k := 0) (m := m) (by omega) (by omega))) (fun s' W h => ?_) (fun s' W h => same_under (rlen h ld))
  have := rshift h ld 0 (by decide) (by decide)
  unfold shv at this
  rw [if_pos (by decide)] at this
  have e2 : d * 2 ^ (0 : Int).toNat = d := by simp
  rw [e2] at this
  exact this
end Go.Proofs.YtjdogiehcgfmjaaGreatDoor
end
section
namespace Go.Proofs.YtjdogiehcgfmjaaGreatDoor
open Go.RowKit Go.Shelf

/-- What the reference answers of a number that does not end with a nought, by a power of ten. -/
def numv (g : Bool) (n : Nat) (e : Int) : Value :=
  if 0 ≤ e then (if 100 < e ∨ 256 < blen n then ER 5 else if n * 10 ^ e.toNat < 2 ^ 256 then .tuple #[VV 3 g (n * 10 ^ e.toNat) 0, .int .i64 0] else ER 5)
  else if e < -64 then ER 5
  else if 5 ^ (-e).toNat ∣ n ∧ (n / 5 ^ (-e).toNat).log2 ≤ 52 then .tuple #[VV 4 false 0 (((g.toNat * 9223372036854775808 + nr (n / 5 ^ (-e).toNat) e : Nat)) : Int), .int .i64 0]
  else ER 5
set_option maxRecDepth 100000 in
set_option maxHeartbeats 1000000 in
theorem rnum_long (S : ByteArray) (hS : 400 < (S.size : Int)) (w : World) : Calls Tryz.prog 14 #[.string S] w fun e w' => e = .returned (ER 8) ∧ Below w.heap.size w w' := by
  go_enter Tryz.func14, Tryz.ntmps14
  go_wp2
  exact bodyPost_ret (v := .tuple #[VZ, .int .i64 8]) (by simp [results, Tryz.results14, go_sem]) rfl ⟨rfl, bal (Below.refl _ _) _⟩
set_option maxRecDepth 100000 in
set_option maxHeartbeats 1000000 in
theorem rnum_syn (S : ByteArray) (hS : (S.size : Int) ≤ 400) (w : World) (k1 : ∀ W, Calls Tryz.prog 35 #[.string S] W fun e w' => (∃ (g : Bool) (s1 s2 s3 : ByteArray), e = .returned (.tuple #[.bool g, .string s1, .string s2, .string s3, .bool false])) ∧ w' = W) :
    Calls Tryz.prog 14 #[.string S] w fun e w' => e = .returned (ER 3) ∧ Below w.heap.size w w' := by
  have K1 := Lib.hid k1
  clear k1
  go_enter Tryz.func14, Tryz.ntmps14
  go_wp2_with fail
  ((with_reducible refine (K1.out _).mono ?_); rintro e w1 ⟨⟨g, s1, s2, s3, rfl⟩, hw1⟩; rw [hw1]; clear hw1 w1)
  go_wp2
  exact bodyPost_ret (v := .tuple #[VZ, .int .i64 3]) (by simp [results, Tryz.results14, go_sem]) rfl ⟨rfl, bal (Below.refl _ _) _⟩
set_option maxRecDepth 100000 in
set_option maxHeartbeats 1000000 in
theorem rnum_zero (S A F X : ByteArray) (g ob : Bool) (rx : Int) (hr0 : -1000000 ≤ rx) (hr1 : rx ≤ 1000000) (hS : (S.size : Int) ≤ 400) (hA : A.size + F.size ≤ 500) (w : World)
    (k1 : ∀ W, Calls Tryz.prog 35 #[.string S] W fun e w' => e = .returned (.tuple #[.bool g, .string A, .string F, .string X, .bool true]) ∧ w' = W)
    (k2 : ∀ W, Calls Tryz.prog 36 #[.string (A ++ F)] W fun e w' => ∃ s', e = .returned (.tuple #[s', .bool ob]) ∧ DR w' s' 0 ∧ Below W.heap.size W w')
    (k3 : ∀ W, Calls Tryz.prog 37 #[.string X] W fun e w' => e = .returned (.int .i64 rx) ∧ w' = W) :
    Calls Tryz.prog 14 #[.string S] w fun e w' => e = .returned (.tuple #[VV 3 false 0 0, .int .i64 0]) ∧ Below w.heap.size w w' := by
  have K1 := Lib.hid k1; have K2 := Lib.hid k2; have K3 := Lib.hid k3
  clear k1 k2 k3
  go_enter Tryz.func14, Tryz.ntmps14
  go_wp2_with fail
  ((with_reducible refine (K1.out _).mono ?_); rintro e w1 ⟨rfl, hw1⟩; rw [hw1]; clear hw1 w1)
  go_wp2_with fail
  ((with_reducible refine (K2.out _).mono ?_); rintro e w1 ⟨s', rfl, hd, hb⟩)
  obtain ⟨Q, c, rfl, _⟩ := hd.form
  have R1 := RowV.keep hb (RowV.new w (.int .i64 0) (.bool false) (.int .u64 0) (.int .u64 0) (.int .u64 0) (.int .u64 0) (.int .u64 0) (.string ⟨#[]⟩) (.slice none 0 0) (.slice none 0 0))
  have B1 := Lib.hid (btr (bal (Below.refl _ w) _) hb)
  have hlen0 : (digs 0).length = 0 := by rw [digs_zero]; rfl
  clear hb hd
  obtain ⟨p0, p1, p2, p3, p4, p5, p6, p7, p8, p9⟩ := R1.parts
  obtain ⟨f0, f1, f2, f3, f4, f5, f6, f7, f8, f9⟩ := R1.free
  have hlt := R1.lt
  go_wp2_with fail
  ((with_reducible refine (K3.out _).mono ?_); rintro e w2 ⟨rfl, hw1⟩; rw [hw1]; clear hw1 w2)
  go_wp2
  have RN := R1.setAll (.int .i64 3) (.bool false) (.int .u64 0) (.int .u64 0) (.int .u64 0) (.int .u64 0) (.int .u64 0) (.string ⟨#[]⟩) (.slice none 0 0) (.slice none 0 0)
  obtain ⟨q0, q1, q2, q3, q4, q5, q6, q7, q8, q9⟩ := RN.parts
  exact bodyPost_ret (v := .tuple #[VV 3 false 0 0, .int .i64 0]) (by simp [results, Tryz.results14, go_sem, q0, q1, q2, q3, q4, q5, q6, q7, q8, q9, lb_zero]) rfl ⟨rfl, bsc10 B1.out (Nat.le_refl _) _ _ _ _ _ _ _ _ _ _⟩
end Go.Proofs.YtjdogiehcgfmjaaGreatDoor
end
section
namespace Go.Proofs.YtjdogiehcgfmjaaGreatDoor
open Go.RowKit Go.Shelf

theorem Iz_pos5 {g : Bool} {v : Nat} (h : v ≠ 0) : Iz (if g then -(v : Int) else v) = I5 g v := by
  cases g
  · exact Iz_nat v
  · exact Iz_neg h
theorem ten_split {n z i : Nat} (h : i < z) : n * 10 ^ (z - i) = n * 10 ^ (z - (i + 1)) * 10 := by
  rw [show z - i = (z - (i + 1)) + 1 by omega, Nat.pow_succ, Nat.mul_assoc]
theorem five_next {n i : Nat} (h : 5 ^ i ∣ n) : n / 5 ^ i / 5 = n / 5 ^ (i + 1) ∧ ((n / 5 ^ i) % 5 = 0 ↔ 5 ^ (i + 1) ∣ n) := by
  refine ⟨by rw [Nat.div_div_eq_div_mul, Nat.pow_succ], ?_⟩
  obtain ⟨q, rfl⟩ := h
  rw [Nat.mul_div_cancel_left _ (Nat.pow_pos (by decide)), Nat.pow_succ]
  constructor
  · intro h2
    obtain ⟨r, hr⟩ := Nat.dvd_of_mod_eq_zero h2
    exact ⟨r, by rw [hr, Nat.mul_assoc]⟩
  · rintro ⟨r, hr⟩
    have : q = 5 * r := Nat.eq_of_mul_eq_mul_left (Nat.pow_pos (n := i) (show 0 < 5 by decide)) (by rw [hr, Nat.mul_assoc])
    rw [this]; simp
theorem five_odd2 {n K : Nat} (h10 : n % 10 ≠ 0) (hK : 1 ≤ K) (h : 5 ^ K ∣ n) : ∃ m, n / 5 ^ K = 2 * m + 1 := by
  obtain ⟨q, rfl⟩ := h
  rw [Nat.mul_div_cancel_left _ (Nat.pow_pos (by decide))]
  refine ⟨q / 2, ?_⟩
  have h5 : 5 ^ K * q % 5 = 0 := by
    rw [show K = (K - 1) + 1 by omega, Nat.pow_succ, Nat.mul_assoc, Nat.mul_comm, Nat.mul_assoc]
    exact Nat.mul_mod_right 5 _
  have h2 : q % 2 ≠ 0 := fun hq => by
    have : 5 ^ K * q % 2 = 0 := by rw [Nat.mul_mod, hq]; simp
    omega
  omega

theorem dig_grow {n a i : Nat} (h : n < 10 ^ a) (ha : a + i ≤ 500) : (digs (n * 10 ^ i)).length ≤ 1000 :=
  digs_ten (k := a + i) (by rw [Nat.pow_add]; exact Nat.mul_lt_mul_of_pos_right h (Nat.pow_pos (by decide))) ha
theorem dig_less {n a d : Nat} (h : n < 10 ^ a) (ha : a ≤ 500) : (digs (n / d)).length ≤ 1000 := digs_ten (k := a) (Nat.lt_of_le_of_lt (Nat.div_le_self _ _) h) ha
abbrev VZR (W : World) (b : Nat) : Prop := RowV W b (.int .i64 0) (.bool false) (.int .u64 0) (.int .u64 0) (.int .u64 0) (.int .u64 0) (.int .u64 0) (.string ⟨#[]⟩) (.slice none 0 0) (.slice none 0 0)
set_option maxRecDepth 100000 in
set_option maxHeartbeats 4000000 in
theorem rnum_core (S A F X : ByteArray) (g ob : Bool) (n z : Nat) (rx : Int) (hr0 : -1000000 ≤ rx) (hr1 : rx ≤ 1000000) (hS : (S.size : Int) ≤ 400) (hA : A.size + F.size ≤ 400) (hz : z ≤ 400) (h10 : n % 10 ≠ 0) (hN : n * 10 ^ z < 10 ^ 400) (w : World)
    (k1 : ∀ W, Calls Tryz.prog 35 #[.string S] W fun e w' => e = .returned (.tuple #[.bool g, .string A, .string F, .string X, .bool true]) ∧ w' = W)
    (k2 : ∀ W, Calls Tryz.prog 36 #[.string (A ++ F)] W fun e w' => ∃ s', e = .returned (.tuple #[s', .bool ob]) ∧ DR w' s' (n * 10 ^ z) ∧ Below W.heap.size W w')
    (k3 : ∀ W, Calls Tryz.prog 37 #[.string X] W fun e w' => e = .returned (.int .i64 rx) ∧ w' = W) :
    Calls Tryz.prog 14 #[.string S] w fun e w' => e = .returned (numv g n (rx - (F.size : Int) + (z : Int))) ∧ Below w.heap.size w w' := by
  have hn0 : n ≠ 0 := fun h => h10 (by rw [h])
  have hnle : n < 10 ^ 400 := Nat.lt_of_le_of_lt (Nat.le_mul_of_pos_right _ (Nat.pow_pos (by decide))) hN
  have hdig : ∀ i, i ≤ z → (digs (n * 10 ^ (z - i))).length ≤ 1000 := fun i hi => digs_ten (k := 400) (Nat.lt_of_le_of_lt (Nat.mul_le_mul_left _ (Nat.pow_le_pow_right (by decide) (Nat.sub_le _ _))) hN) (by omega)
  have kl : ∀ (W : World) (s : Value) (x : Nat), DR W s x → (digs x).length ≤ 1000 → Calls Tryz.prog 38 #[s, .int .u32 10] W fun e w' => ∃ s', e = .returned (.tuple #[s', .int .u32 ((x % 10 : Nat) : Int)]) ∧ DR w' s' (x / 10) ∧ Below W.heap.size W w' := fun W s x h l => rless h l 10 (by decide) (by decide)
  have kf : ∀ (W : World) (s : Value) (x : Nat), DR W s x → (digs x).length ≤ 1000 → Calls Tryz.prog 38 #[s, .int .u32 5] W fun e w' => ∃ s', e = .returned (.tuple #[s', .int .u32 ((x % 5 : Nat) : Int)]) ∧ DR w' s' (x / 5) ∧ Below W.heap.size W w' := fun W s x h l => rless h l 5 (by decide) (by decide)
  obtain ⟨V, hV⟩ : ∃ V, numv g n (rx - (F.size : Int) + (z : Int)) = V := ⟨_, rfl⟩
  have K1 := Lib.hid k1; have K2 := Lib.hid k2; have K3 := Lib.hid k3; have KL := Lib.hid kl; have KF := Lib.hid kf; have HD := Lib.hid hdig; have HN := Lib.hid hN; have H10 := Lib.hid h10; have HNL := Lib.hid hnle; have HN0 := Lib.hid hn0
  rw [hV]
  have HV := Lib.hid hV
  have hFs : F.size ≤ 400 := by omega
  clear k1 k2 k3 kl kf hdig hN h10 hV hnle hn0
  obtain ⟨E0, hE0⟩ : ∃ E0, rx - (F.size : Int) = E0 := ⟨_, rfl⟩
  have hE1 : -1000400 ≤ E0 := by omega
  have hE2 : E0 ≤ 1000000 := by omega
  rw [hE0] at HV
  go_enter Tryz.func14, Tryz.ntmps14
  go_wp2_with fail
  ((with_reducible refine (K1.out _).mono ?_); rintro e w1 ⟨rfl, hw1⟩; rw [hw1]; clear hw1 w1)
  go_wp2_with fail
  ((with_reducible refine (K2.out _).mono ?_); rintro e w1 ⟨s', rfl, hd, hb⟩)
  obtain ⟨Q, c, rfl, _⟩ := hd.form
  have R1 : Hid (VZR w1 w.heap.size) := RowV.keep hb (RowV.new w _ _ _ _ _ _ _ _ _ _)
  have B1 := Lib.hid (btr (bal (Below.refl _ w) _) hb)
  have hlp : 0 < (digs (n * 10 ^ z)).length := by
    rcases Nat.eq_zero_or_pos (digs (n * 10 ^ z)).length with h | h
    · have h2 := digs_len.1 (show (digs (n * 10 ^ z)).length ≤ 0 by omega)
      have h3 := Nat.mul_pos (Nat.pos_of_ne_zero HN0.out) (Nat.pow_pos (n := z) (show 0 < 10 by decide))
      simp at h2
      omega
    · exact h
  have hlz : (((digs (n * 10 ^ z)).length : Int) == 0) = false := by rw [beq_eq_false_iff_ne]; omega
  have D1 := Lib.hid hd
  obtain ⟨LN, hLN⟩ : ∃ LN, (digs (n * 10 ^ z)).length = LN := ⟨_, rfl⟩
  rw [hLN] at hlz D1 ⊢
  clear hb hd hlp hLN
  go_wp2_with fail
  ((with_reducible refine (K3.out _).mono ?_); rintro e w2 ⟨rfl, hw1⟩; rw [hw1]; clear hw1 w2)
  go_wp2
  clear hE0
  go_loopw [9, 11, 12, 13] (fun dv ev _ _ wr => ∃ (i : Nat) (Q : Option Addr) (l c : Nat), i ≤ z ∧ dv = .slice Q l c ∧ ev = .int .i64 (E0 + (i : Int)) ∧ Hid (DR wr (.slice Q l c) (n * 10 ^ (z - i))) ∧ Hid (Below w.heap.size w wr) ∧ Hid (VZR wr w.heap.size)) (fun _ ev _ _ _ => (E0 + (z : Int) - intOf ev).toNat)
  case atStart => exact ⟨0, Q, LN, c, Nat.zero_le _, rfl, by simp, D1, B1, R1⟩
  case round =>
    obtain ⟨i, Q, l, c, hi, rfl, rfl, DW, BW, RW⟩ := hrel
    by_cases hlt : i < z
    · have kz : Hid (∀ W s, DR W s (n * 10 ^ (z - i)) → Calls Tryz.prog 38 #[s, .int .u32 10] W fun e w' => ∃ s', e = .returned (.tuple #[s', .int .u32 0]) ∧ DR w' s' (n * 10 ^ (z - (i + 1))) ∧ Below W.heap.size W w') := fun W s h => by
        have := KL.out W s _ h (HD.out i hi)
        rw [ten_split hlt, Nat.mul_mod_left, Nat.mul_div_cancel _ (by decide)] at this
        exact this
      go_wp2_with fail
      ((with_reducible refine (kz.out _ _ DW.out).mono ?_); rintro e w2 ⟨s', rfl, hd, hb⟩)
      obtain ⟨Q2, c2, rfl, _⟩ := hd.form
      have D2 := Lib.hid hd
      have B2 := Lib.hid (btr BW.out hb)
      have R2 : Hid (VZR w2 w.heap.size) := RowV.keep hb RW.out
      clear hd hb
      go_wp2
      go_roundw
      case rel => exact ⟨i + 1, _, _, _, by omega, rfl, by first | rfl | exact congrArg (Value.int .i64) (by omega), D2, B2, R2⟩
      case measure => simp [intOf]; omega
    · have hiz : i = z := by omega
      obtain ⟨rr, hrr⟩ : ∃ rr, n % 10 = rr := ⟨_, rfl⟩
      have hr9 : rr < 10 := by omega
      have hrn : ((rr : Int) != 0) = true := by rw [bne_iff_ne]; have := H10.out; omega
      have kz : Hid (∀ W s, DR W s n → Calls Tryz.prog 38 #[s, .int .u32 10] W fun e w' => ∃ s', e = .returned (.tuple #[s', .int .u32 (rr : Int)]) ∧ DR w' s' (n / 10) ∧ Below W.heap.size W w') := fun W s h => by
        have := KL.out W s _ h (by have := HD.out z (Nat.le_refl _); rwa [Nat.sub_self, Nat.pow_zero, Nat.mul_one] at this)
        rw [hrr] at this
        exact this
      have DN := DW.out
      rw [hiz, Nat.sub_self, Nat.pow_zero, Nat.mul_one] at DN
      have DN2 := Lib.hid DN
      obtain ⟨E, hE⟩ : ∃ E, E0 + (i : Int) = E := ⟨_, rfl⟩
      have HVE : Hid (numv g n E = V) := by rw [← hE, hiz]; exact HV.out
      have hE3 : -1000400 ≤ E := by omega
      have hE4 : E ≤ 1000400 := by omega
      rw [hE]
      clear hrr hiz DN DW HV hE hE1 hE2 hlt hi
      go_wp2_with fail
      ((with_reducible refine (kz.out _ _ DN2.out).mono ?_); rintro e w2 ⟨s', rfl, _, hb⟩)
      have B2 := Lib.hid (btr BW.out hb)
      have R2 : Hid (VZR w2 w.heap.size) := RowV.keep hb RW.out
      have D2 := Lib.hid (DN2.out.keep hb)
      clear hb kz BW RW DN2
      by_cases he : 0 ≤ E
      · -- a whole number
        by_cases h100 : 100 < E
        · have HF : Hid (V = ER 5) := by
            show _ = _
            rw [← HVE.out]
            unfold numv
            rw [if_pos he, if_pos (.inl h100)]
          clear HVE
          obtain ⟨p0, p1, p2, p3, p4, p5, p6, p7, p8, p9⟩ := R2.out.parts
          obtain ⟨f0, f1, f2, f3, f4, f5, f6, f7, f8, f9⟩ := R2.out.free
          have hrlt := R2.out.lt
          go_wp2
          have RN := R2.out.setAll (.int .i64 0) (.bool false) (.int .u64 0) (.int .u64 0) (.int .u64 0) (.int .u64 0) (.int .u64 0) (.string ⟨#[]⟩) (.slice none 0 0) (.slice none 0 0)
          obtain ⟨q0, q1, q2, q3, q4, q5, q6, q7, q8, q9⟩ := RN.parts
          exact bodyPost_ret (v := .tuple #[VZ, .int .i64 5]) (by simp [results, Tryz.results14, go_sem, q0, q1, q2, q3, q4, q5, q6, q7, q8, q9]) rfl ⟨by rw [HF.out]; rfl, bsc10 B2.out (Nat.le_refl _) _ _ _ _ _ _ _ _ _ _⟩
        · have hld : (digs n).length ≤ 1000 := by have := HD.out z (Nat.le_refl _); rwa [Nat.sub_self, Nat.pow_zero, Nat.mul_one] at this
          obtain ⟨LB, hLB⟩ : ∃ LB, blen n = LB := ⟨_, rfl⟩
          have kb : Hid (∀ W s, DR W s n → Calls Tryz.prog 39 #[s] W fun e w' => e = .returned (.int .i64 LB) ∧ w' = W) := fun W s h => by
            have := rlen h hld
            rw [hLB] at this
            exact this
          by_cases h256 : 256 < LB
          · have h256i : (256 : Int) < (LB : Int) := by omega
            have HF : Hid (V = ER 5) := by
              show _ = _
              rw [← HVE.out]
              unfold numv
              rw [if_pos he, if_pos (.inr (by rw [hLB]; exact h256))]
            clear HVE hLB
            go_wp2_with (go_at_call 39; ((with_reducible refine (kb.out _ _ D2.out).mono ?_); rintro e w3 ⟨rfl, hw1⟩; rw [hw1]; clear hw1 w3; obtain ⟨p0, p1, p2, p3, p4, p5, p6, p7, p8, p9⟩ := R2.out.parts; obtain ⟨f0, f1, f2, f3, f4, f5, f6, f7, f8, f9⟩ := R2.out.free; have hrlt := R2.out.lt))
            have RN := R2.out.setAll (.int .i64 0) (.bool false) (.int .u64 0) (.int .u64 0) (.int .u64 0) (.int .u64 0) (.int .u64 0) (.string ⟨#[]⟩) (.slice none 0 0) (.slice none 0 0)
            obtain ⟨q0, q1, q2, q3, q4, q5, q6, q7, q8, q9⟩ := RN.parts
            exact bodyPost_ret (v := .tuple #[VZ, .int .i64 5]) (by simp [results, Tryz.results14, go_sem, q0, q1, q2, q3, q4, q5, q6, q7, q8, q9]) rfl ⟨by rw [HF.out]; rfl, bsc10 B2.out (Nat.le_refl _) _ _ _ _ _ _ _ _ _ _⟩
          · have h256i : ¬ (256 : Int) < (LB : Int) := by omega
            have HVW : Hid ((if n * 10 ^ E.toNat < 2 ^ 256 then .tuple #[VV 3 g (n * 10 ^ E.toNat) 0, .int .i64 0] else ER 5) = V) := by
              show _ = _
              rw [← HVE.out]
              unfold numv
              rw [if_pos he, if_neg (show ¬ (100 < E ∨ 256 < blen n) from by rw [hLB]; omega)]
            clear HVE hLB hld
            go_wp2_with (go_at_call 39; ((with_reducible refine (kb.out _ _ D2.out).mono ?_); rintro e w3 ⟨rfl, hw1⟩; rw [hw1]; clear hw1 w3))
            obtain ⟨Ke, hKe⟩ : ∃ Ke : Nat, E = (Ke : Int) := ⟨E.toNat, by omega⟩
            subst hKe
            have hK100 : Ke ≤ 100 := by omega
            rw [Int.toNat_natCast] at HVW
            clear he h100 hE3 hE4
            go_loopw [9, 14] (fun dv iv wr => ∃ (i : Nat) (Q : Option Addr) (l c : Nat), i ≤ Ke ∧ dv = .slice Q l c ∧ iv = .int .i64 (i : Int) ∧ Hid (DR wr (.slice Q l c) (n * 10 ^ i)) ∧ Hid (Below w.heap.size w wr) ∧ Hid (VZR wr w.heap.size)) (fun _ iv _ => Ke - (intOf iv).toNat)
            case atStart => exact ⟨0, _, _, _, Nat.zero_le _, rfl, rfl, (show Hid _ from by have := D2.out; rwa [Nat.pow_zero, Nat.mul_one]), B2, R2⟩
            case round =>
              obtain ⟨i, Q, l, c, hi, rfl, rfl, DW, BW, RW⟩ := hrel
              by_cases hlt : i < Ke
              · have hlti : (i : Int) < (Ke : Int) := by omega
                have hdg : (digs (n * 10 ^ i)).length ≤ 1000 := dig_grow HNL.out (by omega)
                have hdt : (digs 10).length ≤ 1000 := by decide +kernel
                have km : Hid (∀ W s t, DR W s (n * 10 ^ i) → DR W t 10 → Calls Tryz.prog 40 #[s, t] W fun e w' => ∃ s', e = .returned s' ∧ DR w' s' (n * 10 ^ (i + 1)) ∧ Below W.heap.size W w') := fun W s t h1 h2 => by
                  have := rmul h1 h2 hdg hdt
                  rw [Nat.mul_assoc, ← Nat.pow_succ] at this
                  exact this
                have DT := Lib.hid (ten_new wr 10 (by decide) (by decide) 10 rfl)
                go_wp2_with fail
                ((with_reducible refine (km.out _ _ _ (DW.out.keep (bal (Below.refl _ _) _)) DT.out).mono ?_); rintro e w3 ⟨s', rfl, hd, hb⟩)
                obtain ⟨Q2, c2, rfl, _⟩ := hd.form
                have D3 := Lib.hid hd
                have B3 := Lib.hid (btr (bal BW.out _) hb)
                have R3 : Hid (VZR w3 w.heap.size) := RowV.keep hb (RowV.alloc RW.out _)
                clear hd hb
                go_wp2
                go_roundw
                case rel => exact ⟨i + 1, _, _, _, by omega, rfl, by go_num, D3, B3, R3⟩
                case measure => simp [intOf]; omega
              · have hge : ¬ (i : Int) < (Ke : Int) := by omega
                obtain rfl : i = Ke := by omega
                obtain ⟨v, hv⟩ : ∃ v, n * 10 ^ i = v := ⟨_, rfl⟩
                have hv0 : v ≠ 0 := by
                  have := Nat.mul_pos (Nat.pos_of_ne_zero HN0.out) (Nat.pow_pos (n := i) (show 0 < 10 by decide))
                  omega
                have DV := DW.out
                rw [hv] at DV HVW
                have D3 := Lib.hid DV
                clear hv DV DW hlt
                by_cases hv256 : v < 2 ^ 256
                · have kw : Hid (∀ W s, DR W s v → Calls Tryz.prog 41 #[.bool g, s] W fun e w' => e = .returned (.tuple #[I5 g v, .bool true]) ∧ Below W.heap.size W w') := fun W s h => by
                    have := rwh g h
                    rw [if_pos hv256, Iz_pos5 hv0] at this
                    exact this
                  have HF : Hid (V = .tuple #[VV 3 g v 0, .int .i64 0]) := by show _ = _; rw [← HVW.out, if_pos hv256]
                  clear HVW hv256
                  go_wp2_with fail
                  ((with_reducible refine (kw.out _ _ D3.out).mono ?_); rintro e w3 ⟨rfl, hb⟩)
                  have B3 := Lib.hid (btr BW.out hb)
                  have R3 : VZR w3 w.heap.size := RowV.keep hb RW.out
                  clear hb
                  obtain ⟨p0, p1, p2, p3, p4, p5, p6, p7, p8, p9⟩ := R3.parts
                  obtain ⟨f0, f1, f2, f3, f4, f5, f6, f7, f8, f9⟩ := R3.free
                  have hrlt := R3.lt
                  go_wp2
                  have RN := fun o => ((R3.setAll (.int .i64 3) (.bool g) (.int .u64 (lb 0 v)) (.int .u64 (lb 1 v)) (.int .u64 (lb 2 v)) (.int .u64 (lb 3 v)) (.int .u64 0) (.string ⟨#[]⟩) (.slice none 0 0) (.slice none 0 0)).alloc o).parts
                  have q0 := fun o => (RN o).1
                  have q1 := fun o => (RN o).2.1
                  have q2 := fun o => (RN o).2.2.1
                  have q3 := fun o => (RN o).2.2.2.1
                  have q4 := fun o => (RN o).2.2.2.2.1
                  have q5 := fun o => (RN o).2.2.2.2.2.1
                  have q6 := fun o => (RN o).2.2.2.2.2.2.1
                  have q7 := fun o => (RN o).2.2.2.2.2.2.2.1
                  have q8 := fun o => (RN o).2.2.2.2.2.2.2.2.1
                  have q9 := fun o => (RN o).2.2.2.2.2.2.2.2.2
                  clear RN
                  exact bodyPost_ret (v := .tuple #[VV 3 g v 0, .int .i64 0]) (by simp [results, Tryz.results14, go_sem, q0, q1, q2, q3, q4, q5, q6, q7, q8, q9]) rfl ⟨by rw [HF.out], bal (bsc10 B3.out (Nat.le_refl _) _ _ _ _ _ _ _ _ _ _) _⟩
                · have kw : Hid (∀ W s, DR W s v → Calls Tryz.prog 41 #[.bool g, s] W fun e w' => e = .returned (.tuple #[Z5, .bool false]) ∧ Below W.heap.size W w') := fun W s h => by
                    have := rwh g h
                    rw [if_neg hv256] at this
                    exact this
                  have HF : Hid (V = ER 5) := by show _ = _; rw [← HVW.out, if_neg hv256]
                  clear HVW hv256
                  go_wp2_with fail
                  ((with_reducible refine (kw.out _ _ D3.out).mono ?_); rintro e w3 ⟨rfl, hb⟩)
                  have B3 := Lib.hid (btr BW.out hb)
                  have R3 : VZR w3 w.heap.size := RowV.keep hb RW.out
                  clear hb
                  obtain ⟨p0, p1, p2, p3, p4, p5, p6, p7, p8, p9⟩ := R3.parts
                  obtain ⟨f0, f1, f2, f3, f4, f5, f6, f7, f8, f9⟩ := R3.free
                  have hrlt := R3.lt
                  go_wp2
                  have RN := fun o => ((R3.setAll (.int .i64 0) (.bool false) (.int .u64 0) (.int .u64 0) (.int .u64 0) (.int .u64 0) (.int .u64 0) (.string ⟨#[]⟩) (.slice none 0 0) (.slice none 0 0)).alloc o).parts
                  have q0 := fun o => (RN o).1
                  have q1 := fun o => (RN o).2.1
                  have q2 := fun o => (RN o).2.2.1
                  have q3 := fun o => (RN o).2.2.2.1
                  have q4 := fun o => (RN o).2.2.2.2.1
                  have q5 := fun o => (RN o).2.2.2.2.2.1
                  have q6 := fun o => (RN o).2.2.2.2.2.2.1
                  have q7 := fun o => (RN o).2.2.2.2.2.2.2.1
                  have q8 := fun o => (RN o).2.2.2.2.2.2.2.2.1
                  have q9 := fun o => (RN o).2.2.2.2.2.2.2.2.2
                  clear RN
                  exact bodyPost_ret (v := .tuple #[VZ, .int .i64 5]) (by simp [results, Tryz.results14, go_sem, q0, q1, q2, q3, q4, q5, q6, q7, q8, q9]) rfl ⟨by rw [HF.out]; rfl, bal (bsc10 B3.out (Nat.le_refl _) _ _ _ _ _ _ _ _ _ _) _⟩
      · -- behind the point
        by_cases h64 : E < -64
        · have HF : Hid (V = ER 5) := by
            show _ = _
            rw [← HVE.out]
            unfold numv
            rw [if_neg he, if_pos h64]
          clear HVE
          obtain ⟨p0, p1, p2, p3, p4, p5, p6, p7, p8, p9⟩ := R2.out.parts
          obtain ⟨f0, f1, f2, f3, f4, f5, f6, f7, f8, f9⟩ := R2.out.free
          have hrlt := R2.out.lt
          go_wp2
          have RN := R2.out.setAll (.int .i64 0) (.bool false) (.int .u64 0) (.int .u64 0) (.int .u64 0) (.int .u64 0) (.int .u64 0) (.string ⟨#[]⟩) (.slice none 0 0) (.slice none 0 0)
          obtain ⟨q0, q1, q2, q3, q4, q5, q6, q7, q8, q9⟩ := RN.parts
          exact bodyPost_ret (v := .tuple #[VZ, .int .i64 5]) (by simp [results, Tryz.results14, go_sem, q0, q1, q2, q3, q4, q5, q6, q7, q8, q9]) rfl ⟨by rw [HF.out]; rfl, bsc10 B2.out (Nat.le_refl _) _ _ _ _ _ _ _ _ _ _⟩
        · obtain ⟨K, hK⟩ : ∃ K : Nat, E = -(K : Int) := ⟨(-E).toNat, by omega⟩
          subst hK
          have hK1 : 1 ≤ K := by omega
          have hK2 : K ≤ 64 := by omega
          have HVF : Hid ((if 5 ^ K ∣ n ∧ (n / 5 ^ K).log2 ≤ 52 then .tuple #[VV 4 false 0 (((g.toNat * 9223372036854775808 + nr (n / 5 ^ K) (-(K : Int)) : Nat)) : Int), .int .i64 0] else ER 5) = V) := by
            show _ = _
            rw [← HVE.out]
            unfold numv
            rw [if_neg he, if_neg h64, show (-(-(K : Int))).toNat = K by omega]
          have hneg : -(-(K : Int)) = (K : Int) := by omega
          have hb2 : decide (-(K : Int) < -64) = false := decide_eq_false (by omega)
          have hb5 : decide (K = 0) = false := decide_eq_false (by omega)
          clear HVE hE3 hE4
          go_wp2
          go_loopw [9, 17, 18, 19] (fun dv iv _ _ wr => ∃ (i : Nat) (Q : Option Addr) (l c : Nat), i ≤ K ∧ dv = .slice Q l c ∧ iv = .int .i64 (i : Int) ∧ Hid (5 ^ i ∣ n) ∧ Hid (DR wr (.slice Q l c) (n / 5 ^ i)) ∧ Hid (Below w.heap.size w wr) ∧ Hid (VZR wr w.heap.size)) (fun _ iv _ _ _ => K - (intOf iv).toNat)
          case atStart => exact ⟨0, _, _, _, Nat.zero_le _, rfl, rfl, (show Hid _ from Nat.one_dvd n), (show Hid _ from by have := D2.out; rwa [Nat.pow_zero, Nat.div_one]), B2, R2⟩
          case round =>
            obtain ⟨i, Q, l, c, hi, rfl, rfl, FW, DW, BW, RW⟩ := hrel
            by_cases hlt : i < K
            · have hlti : (i : Int) < (K : Int) := by omega
              obtain ⟨h51, h52⟩ := five_next FW.out
              obtain ⟨rr, hrr⟩ : ∃ rr, n / 5 ^ i % 5 = rr := ⟨_, rfl⟩
              have kd : Hid (∀ W s, DR W s (n / 5 ^ i) → Calls Tryz.prog 38 #[s, .int .u32 5] W fun e w' => ∃ s', e = .returned (.tuple #[s', .int .u32 (rr : Int)]) ∧ DR w' s' (n / 5 ^ (i + 1)) ∧ Below W.heap.size W w') := fun W s h => by
                have := KF.out W s _ h (dig_less HNL.out (by omega))
                rw [hrr, h51] at this
                exact this
              rw [hrr] at h52
              by_cases hr0 : rr = 0
              · subst hr0
                have F2 := Lib.hid (h52.1 rfl)
                clear h51 h52 hrr
                go_wp2_with fail
                ((with_reducible refine (kd.out _ _ DW.out).mono ?_); rintro e w3 ⟨s', rfl, hd, hb⟩)
                obtain ⟨Q2, c2, rfl, _⟩ := hd.form
                have D3 := Lib.hid hd
                have B3 := Lib.hid (btr BW.out hb)
                have R3 : Hid (VZR w3 w.heap.size) := RowV.keep hb RW.out
                clear hd hb
                go_wp2
                go_roundw
                case rel => exact ⟨i + 1, _, _, _, by omega, rfl, by first | rfl | go_num | exact congrArg (Value.int .i64) (by omega), F2, D3, B3, R3⟩
                case measure => simp [intOf]; omega
              · have hrn : ((rr : Int) != 0) = true := by rw [bne_iff_ne]; omega
                have HF : Hid (V = ER 5) := by
                  show _ = _
                  rw [← HVF.out, if_neg]
                  rintro ⟨h, _⟩
                  exact hr0 (h52.2 (Nat.dvd_trans (Nat.pow_dvd_pow 5 (by omega)) h))
                clear h51 h52 hrr HVF
                go_wp2_with fail
                ((with_reducible refine (kd.out _ _ DW.out).mono ?_); rintro e w3 ⟨s', rfl, hd, hb⟩)
                have B3 := Lib.hid (btr BW.out hb)
                have R3 : Hid (VZR w3 w.heap.size) := RowV.keep hb RW.out
                clear hd hb
                obtain ⟨p0, p1, p2, p3, p4, p5, p6, p7, p8, p9⟩ := R3.out.parts
                obtain ⟨f0, f1, f2, f3, f4, f5, f6, f7, f8, f9⟩ := R3.out.free
                have hrlt := R3.out.lt
                go_wp2
                have RN := R3.out.setAll (.int .i64 0) (.bool false) (.int .u64 0) (.int .u64 0) (.int .u64 0) (.int .u64 0) (.int .u64 0) (.string ⟨#[]⟩) (.slice none 0 0) (.slice none 0 0)
                obtain ⟨q0, q1, q2, q3, q4, q5, q6, q7, q8, q9⟩ := RN.parts
                exact bodyPost_ret (v := .tuple #[VZ, .int .i64 5]) (by simp [results, Tryz.results14, go_sem, q0, q1, q2, q3, q4, q5, q6, q7, q8, q9]) rfl ⟨by rw [HF.out]; rfl, bsc10 B3.out (Nat.le_refl _) _ _ _ _ _ _ _ _ _ _⟩
            · have hge : ¬ (i : Int) < (K : Int) := by omega
              obtain rfl : i = K := by omega
              obtain ⟨m, hm⟩ := five_odd2 H10.out hK1 FW.out
              have hld : (digs (n / 5 ^ i)).length ≤ 1000 := dig_less HNL.out (by omega)
              have DV := DW.out
              have hq2 : (n / 5 ^ i).log2 ≤ 1500 := by
                have h1 : n / 5 ^ i < 10 ^ 400 := Nat.lt_of_le_of_lt (Nat.div_le_self _ _) HNL.out
                have h2 : (10 : Nat) ^ 400 ≤ 2 ^ 1500 := by decide +kernel
                have h3 : n / 5 ^ i ≠ 0 := by omega
                have h4 := (Nat.log2_lt h3).2 (Nat.lt_of_lt_of_le h1 h2)
                omega
              obtain ⟨qv, hqv⟩ : ∃ qv, n / 5 ^ i = qv := ⟨_, rfl⟩
              rw [hqv] at hm hld DV hq2 HVF
              have D3 := Lib.hid DV
              have HM := Lib.hid hm
              have HLD := Lib.hid hld
              have HQ2 := Lib.hid hq2
              have hFW := FW.out
              clear DV DW hlt hqv hm hld hq2
              by_cases h52 : qv.log2 ≤ 52
              · obtain ⟨wd, hwd⟩ : ∃ wd, g.toNat * 9223372036854775808 + nr qv (-(i : Int)) = wd := ⟨_, rfl⟩
                have kp : Hid (∀ W s, DR W s qv → Calls Tryz.prog 42 #[.bool g, s, .int .i64 (-(i : Int)), .int .i64 53, .int .i64 11] W fun e w' => e = .returned (.tuple #[.int .u64 (wd : Int), .bool true]) ∧ Below W.heap.size W w') := fun W s h => by
                  have := rpack_frac g HM.out h52 hK2 HLD.out h
                  rw [hwd] at this
                  exact this
                have HF : Hid (V = .tuple #[VV 4 false 0 (wd : Int), .int .i64 0]) := by show _ = _; rw [← HVF.out, if_pos ⟨hFW, h52⟩, hwd]
                clear HVF hFW hwd h52
                go_wp2_with fail
                ((with_reducible refine (kp.out _ _ D3.out).mono ?_); rintro e w3 ⟨rfl, hb⟩)
                have B3 := Lib.hid (btr BW.out hb)
                have R3 : VZR w3 w.heap.size := RowV.keep hb RW.out
                clear hb
                obtain ⟨p0, p1, p2, p3, p4, p5, p6, p7, p8, p9⟩ := R3.parts
                obtain ⟨f0, f1, f2, f3, f4, f5, f6, f7, f8, f9⟩ := R3.free
                have hrlt := R3.lt
                go_wp2
                have RN := R3.setAll (.int .i64 4) (.bool false) (.int .u64 0) (.int .u64 0) (.int .u64 0) (.int .u64 0) (.int .u64 (wd : Int)) (.string ⟨#[]⟩) (.slice none 0 0) (.slice none 0 0)
                obtain ⟨q0, q1, q2, q3, q4, q5, q6, q7, q8, q9⟩ := RN.parts
                exact bodyPost_ret (v := .tuple #[VV 4 false 0 (wd : Int), .int .i64 0]) (by simp [results, Tryz.results14, go_sem, q0, q1, q2, q3, q4, q5, q6, q7, q8, q9, lb_zero]) rfl ⟨by rw [HF.out], bsc10 B3.out (Nat.le_refl _) _ _ _ _ _ _ _ _ _ _⟩
              · have kp : Hid (∀ W s, DR W s qv → Calls Tryz.prog 42 #[.bool g, s, .int .i64 (-(i : Int)), .int .i64 53, .int .i64 11] W fun e w' => e = .returned (.tuple #[.int .u64 0, .bool false]) ∧ Below W.heap.size W w') := fun W s h => rpack_long g HM.out (by omega) HQ2.out hK2 HLD.out h
                have HF : Hid (V = ER 5) := by show _ = _; rw [← HVF.out, if_neg (fun h => h52 h.2)]
                clear HVF hFW h52
                go_wp2_with fail
                ((with_reducible refine (kp.out _ _ D3.out).mono ?_); rintro e w3 ⟨rfl, hb⟩)
                have B3 := Lib.hid (btr BW.out hb)
                have R3 : VZR w3 w.heap.size := RowV.keep hb RW.out
                clear hb
                obtain ⟨p0, p1, p2, p3, p4, p5, p6, p7, p8, p9⟩ := R3.parts
                obtain ⟨f0, f1, f2, f3, f4, f5, f6, f7, f8, f9⟩ := R3.free
                have hrlt := R3.lt
                go_wp2
                have RN := R3.setAll (.int .i64 0) (.bool false) (.int .u64 0) (.int .u64 0) (.int .u64 0) (.int .u64 0) (.int .u64 0) (.string ⟨#[]⟩) (.slice none 0 0) (.slice none 0 0)
                obtain ⟨q0, q1, q2, q3, q4, q5, q6, q7, q8, q9⟩ := RN.parts
                exact bodyPost_ret (v := .tuple #[VZ, .int .i64 5]) (by simp [results, Tryz.results14, go_sem, q0, q1, q2, q3, q4, q5, q6, q7, q8, q9]) rfl ⟨by rw [HF.out]; rfl, bsc10 B3.out (Nat.le_refl _) _ _ _ _ _ _ _ _ _ _⟩
end Go.Proofs.YtjdogiehcgfmjaaGreatDoor
end
section
namespace Go.Proofs.YtjdogiehcgfmjaaGreatDoor
open Go.RowKit Go.Shelf

theorem tz_odd {q m : Nat} (h : q < 2 ^ 256) (e : q = 2 * m + 1) : tz q = 0 := tz_unique (m := m) h (by rw [e]; simp)
theorem wby_odd {g : Bool} {q m : Nat} {p : Int} (h : q < 2 ^ 256) (e : q = 2 * m + 1) : wby g q p = g.toNat * 9223372036854775808 + nr q p := by
  unfold wby
  rw [tz_odd h e, Nat.pow_zero, Nat.div_one]
  simp
theorem exq_odd {q m : Nat} (h : q < 2 ^ 256) (e : q = 2 * m + 1) : exq q = true ↔ q.log2 ≤ 52 := by
  unfold exq
  rw [tz_odd h e, blen_log (by omega), decide_eq_true_iff]
  omega
/-- An odd number by a power far below 1 is no plain float. -/
theorem cls_far {b s d m K : Nat} (hb : b = s * 9223372036854775808 + nr d (-(K : Int))) (hd : d = 2 * m + 1) (hl : d.log2 ≤ 52) (hK1 : 64 < K) (hK2 : K ≤ 900) : cls b ≠ 1 := by
  obtain ⟨a, c, e⟩ := nr_oddz hd (p := -(K : Int)) hl (by omega) (by omega)
  have hI : INF = 9218868437227405312 := rfl
  have a' : nr d (-(K : Int)) < 9223372036854775808 := by omega
  obtain ⟨hr, hs⟩ := word_parts (n := s) a'
  rw [← hb] at hr hs
  have hp : pw b = -(K : Int) := by rw [pw_rg, hr, c]
  have hB : beh b = K := by unfold beh; rw [if_pos (by omega), hp]; omega
  have hw : whl b = none := by unfold whl; rw [if_neg (by rintro ⟨_, h, _⟩; rw [hp] at h; omega)]
  unfold cls
  rw [if_neg (by omega), if_neg (by omega), hw, hB, if_neg (by decide), if_pos (by omega)]
  decide
theorem plv_far {g : Bool} {n : Nat} {p : Int} (hn : n < 2 ^ 256) (h10 : n % 10 ≠ 0) (hp : p < -64) : plv g n p = none := by
  unfold plv
  rw [if_neg]
  rintro ⟨h5, he, hc⟩
  have hn0 : n ≠ 0 := fun h => h10 (by rw [h])
  have hK := five_small hn hn0 h5
  obtain ⟨m, hm⟩ := five_odd2 h10 (by omega) h5
  have hq : n / 5 ^ (-p).toNat < 2 ^ 256 := Nat.lt_of_le_of_lt (Nat.div_le_self _ _) hn
  rw [exq_odd hq hm] at he
  rw [wby_odd hq hm] at hc
  exact cls_far (K := (-p).toNat) (by rw [show -(((-p).toNat : Nat) : Int) = p by omega]) hm he (by omega) (by omega) hc
theorem plv_near {g : Bool} {n K : Nat} (hn : n < 2 ^ 256) (h10 : n % 10 ≠ 0) (hK1 : 1 ≤ K) (hK2 : K ≤ 64) :
    plv g n (-(K : Int)) = if 5 ^ K ∣ n ∧ (n / 5 ^ K).log2 ≤ 52 then some (g.toNat * 9223372036854775808 + nr (n / 5 ^ K) (-(K : Int))) else none := by
  have hq : n / 5 ^ K < 2 ^ 256 := Nat.lt_of_le_of_lt (Nat.div_le_self _ _) hn
  unfold plv
  rw [show (-(-(K : Int))).toNat = K by omega]
  by_cases h5 : 5 ^ K ∣ n
  · obtain ⟨m, hm⟩ := five_odd2 h10 hK1 h5
    rw [wby_odd hq hm]
    by_cases hl : (n / 5 ^ K).log2 ≤ 52
    · rw [if_pos ⟨h5, (exq_odd hq hm).2 hl, (cls_plain rfl hm hl hK1 hK2).1⟩, if_pos ⟨h5, hl⟩]
    · rw [if_neg (fun h => hl ((exq_odd hq hm).1 h.2.1)), if_neg (fun h => hl h.2)]
  · rw [if_neg (fun h => h5 h.1), if_neg (fun h => h5 h.1)]
theorem ten_big {n : Nat} {e : Int} (hn : n ≠ 0) (he : 100 < e) : ¬ n * 10 ^ e.toNat < 2 ^ 256 := by
  have h1 : (2 : Nat) ^ 256 ≤ 10 ^ 100 := by decide +kernel
  have h2 : (10 : Nat) ^ 100 ≤ 10 ^ e.toNat := Nat.pow_le_pow_right (by decide) (by omega)
  have h3 : 1 * 10 ^ e.toNat ≤ n * 10 ^ e.toNat := Nat.mul_le_mul_right _ (by omega)
  omega
theorem num_join {g : Bool} {n : Nat} {e p : Int} (h10 : n % 10 ≠ 0) (hc : e = p ∨ (100 < e ∧ 100 < p) ∨ (e < -64 ∧ p < -64)) :
    numv g n e = (match (if n < 2 ^ 256 then some n else none : Option Nat) with | none => ER 5 | some n => dpv g n p) := by
  have hn0 : n ≠ 0 := fun h => h10 (by rw [h])
  by_cases hn : n < 2 ^ 256
  · rw [if_pos hn]
    show numv g n e = dpv g n p
    have hbl : ¬ 256 < blen n := by
      rw [blen_log hn0]
      have := (Nat.log2_lt hn0).2 hn
      omega
    rcases hc with rfl | ⟨h1, h2⟩ | ⟨h1, h2⟩
    · unfold numv dpv
      by_cases h0 : 0 ≤ e
      · rw [if_pos h0, if_pos h0]
        by_cases h100 : 100 < e
        · rw [if_pos (.inl h100), if_neg (ten_big hn0 h100)]
        · rw [if_neg (by rintro (h | h); exact h100 h; exact hbl h)]
      · rw [if_neg h0, if_neg h0]
        by_cases h64 : e < -64
        · rw [if_pos h64, plv_far hn h10 h64]
        · rw [if_neg h64]
          obtain ⟨K, hK⟩ : ∃ K : Nat, e = -(K : Int) := ⟨(-e).toNat, by omega⟩
          subst hK
          rw [show (-(-(K : Int))).toNat = K by omega, plv_near hn h10 (by omega) (by omega)]
          by_cases h : 5 ^ K ∣ n ∧ (n / 5 ^ K).log2 ≤ 52
          · rw [if_pos h, if_pos h]
          · rw [if_neg h, if_neg h]
    · unfold numv dpv
      rw [if_pos (by omega), if_pos (.inl h1), if_pos (by omega), if_neg (ten_big hn0 h2)]
    · unfold numv dpv
      rw [if_neg (by omega), if_pos h1, if_neg (by omega), plv_far hn h10 h2]
  · rw [if_neg hn]
    show numv g n e = ER 5
    have hbl : 256 < blen n := by
      rw [blen_log hn0]
      have := (Nat.le_log2 hn0).2 (show 2 ^ 256 ≤ n by omega)
      omega
    unfold numv
    by_cases h0 : 0 ≤ e
    · rw [if_pos h0, if_pos (.inr hbl)]
    · rw [if_neg h0]
      by_cases h64 : e < -64
      · rw [if_pos h64]
      · rw [if_neg h64, if_neg]
        rintro ⟨h5, hl⟩
        obtain ⟨q, hq⟩ := h5
        rw [hq, Nat.mul_div_cancel_left _ (Nat.pow_pos (by decide))] at hl
        have h1 : q < 2 ^ 53 := by
          rcases Nat.eq_zero_or_pos q with h | h
          · rw [h]; decide
          · exact (Nat.log2_lt (by omega)).1 (by omega)
        have h2 : (5 : Nat) ^ (-e).toNat ≤ 5 ^ 64 := Nat.pow_le_pow_right (by decide) (by omega)
        have h3 : 5 ^ (-e).toNat * q ≤ 5 ^ 64 * 2 ^ 53 := Nat.mul_le_mul h2 (by omega)
        have h4 : (5 : Nat) ^ 64 * 2 ^ 53 < 2 ^ 256 := by decide +kernel
        omega

/-- Both caps of an exponent's number. -/
def CapR (a b : Nat) : Prop := (a = b ∧ b < 10000) ∨ (a = 10000 ∧ 10000 ≤ b)
theorem cap_step {a b : Nat} {c : UInt8} (hc : dfig c = true) (h : CapR a b) : CapR (min (10 * a + (c.toNat - 48)) 10000) (xst b c) := by
  have hb := dfig_bounds hc
  unfold CapR xst at *
  by_cases h6 : b < 1000000
  · rw [if_pos ⟨hb, h6⟩]
    rcases h with ⟨rfl, h⟩ | ⟨rfl, h⟩
    · by_cases h7 : 10 * a + (c.toNat - 48) < 10000
      · exact .inl ⟨by omega, by omega⟩
      · exact .inr ⟨by omega, by omega⟩
    · exact .inr ⟨by omega, by omega⟩
  · rw [if_neg (fun h => h6 h.2)]
    rcases h with ⟨rfl, h⟩ | ⟨rfl, h⟩
    · omega
    · exact .inr ⟨by omega, h⟩
theorem cap_all : ∀ (l : List UInt8) (a b : Nat), (∀ c ∈ l, dfig c = true) → CapR a b → CapR (szs a l) (xsz b l)
  | [], _, _, _, h => h
  | c :: l, a, b, hl, h => cap_all l _ _ (fun d hd => hl d (by simp [hd])) (cap_step (hl c (by simp)) h)
/-- What both say of an exponent. -/
def XRel (xe rx : Int) : Prop := xe = rx ∨ (xe = 10000 ∧ 10000 ≤ rx) ∨ (xe = -10000 ∧ rx ≤ -10000)
theorem cap_pos {a b : Nat} (h : CapR a b) : XRel (a : Int) ((min b 1000000 : Nat) : Int) := by
  unfold CapR at h
  unfold XRel
  omega
theorem cap_neg {a b : Nat} (h : CapR a b) : XRel (-(a : Int)) (-((min b 1000000 : Nat) : Int)) := by
  unfold CapR at h
  unfold XRel
  omega
/-- An exponent's text: nothing, or one that rxp reads. -/
def rxe (x : List UInt8) : Int := match x with | [] => 0 | c :: u => rxp (c :: u)
theorem xst_sign {c : UInt8} (h : c = 43 ∨ c = 45) (n : Nat) : xst n c = n := by
  unfold xst
  rw [if_neg]
  rintro ⟨h1, _⟩
  rcases h with rfl | rfl <;> revert h1 <;> decide
theorem expo_cons (c : UInt8) (t : List UInt8) : expo (c :: t) = if c = 101 ∨ c = 69 then (if figs (dsgn t).2 = [] ∨ rst (dsgn t).2 ≠ [] then none else some (if (dsgn t).1 then -(szs 0 (figs (dsgn t).2) : Int) else (szs 0 (figs (dsgn t).2) : Int))) else none := rfl
theorem spx_expo {r2 x : List UInt8} (h : spx r2 = some (x, [])) : ∃ xe, expo r2 = some xe ∧ XRel xe (rxe x) := by
  cases r2 with
  | nil =>
    unfold spx at h
    injection h with h
    injection h with h1 h2
    subst h1
    exact ⟨0, rfl, .inl rfl⟩
  | cons c u =>
    rw [spx_cons] at h
    by_cases hc : c = 101 ∨ c = 69
    · rw [if_pos hc] at h
      by_cases hd : figs (dsgn u).2 = []
      · rw [if_pos hd] at h; cases h
      · rw [if_neg hd] at h
        injection h with h
        injection h with h1 h2
        have hu : x = u := by
          rw [← h1, h2, List.length_nil, Nat.sub_zero, List.take_length]
        subst hu
        have hfv : figs (dsgn x).2 = (dsgn x).2 := by
          have := figs_rst (dsgn x).2
          rw [h2, List.append_nil] at this
          exact this
        have hall := figs_all (dsgn x).2
        rw [hfv] at hall hd
        have hcap := cap_all (dsgn x).2 0 0 hall (.inl ⟨rfl, by decide⟩)
        refine ⟨if (dsgn x).1 then -(szs 0 (dsgn x).2 : Int) else (szs 0 (dsgn x).2 : Int), ?_, ?_⟩
        · rw [expo_cons, if_pos hc, if_neg (by rw [hfv, h2]; rintro (h | h); exact hd h; exact h rfl), hfv]
        · by_cases h45 : ∃ v, x = 45 :: v
          · obtain ⟨v, rfl⟩ := h45
            show XRel (-(szs 0 v : Int)) (rxp (45 :: v))
            unfold rxp
            rw [if_pos (show (45 :: v).head? = some 45 from rfl)]
            have : xsz 0 (45 :: v) = xsz 0 v := by show xsz (xst 0 45) v = _; rw [xst_sign (.inr rfl)]
            rw [this]
            exact cap_neg hcap
          · by_cases h43 : ∃ v, x = 43 :: v
            · obtain ⟨v, rfl⟩ := h43
              show XRel ((szs 0 v : Int)) (rxp (43 :: v))
              unfold rxp
              rw [if_neg (show ¬ (43 :: v).head? = some 45 from by rw [List.head?_cons]; decide)]
              have : xsz 0 (43 :: v) = xsz 0 v := by show xsz (xst 0 43) v = _; rw [xst_sign (.inl rfl)]
              rw [this]
              exact cap_pos hcap
            · rw [dsgn_no h45 h43] at hcap hd ⊢
              cases x with
              | nil => exact absurd rfl hd
              | cons d v =>
                show XRel (szs 0 (d :: v) : Int) (rxp (d :: v))
                unfold rxp
                rw [if_neg (fun h => h45 ⟨v, by rw [List.head?_cons] at h; injection h with h; rw [h]⟩)]
                exact cap_pos hcap
    · rw [if_neg hc] at h
      injection h with h
      injection h with h1 h2
      cases h2
theorem expo_no {r2 : List UInt8} : (spx r2 = none → expo r2 = none) ∧ (∀ x r, spx r2 = some (x, r) → r ≠ [] → expo r2 = none) := by
  cases r2 with
  | nil =>
    refine ⟨fun h => (by cases h), fun x r h hr => ?_⟩
    unfold spx at h
    injection h with h
    injection h with h1 h2
    exact absurd h2.symm hr
  | cons c u =>
    rw [spx_cons, expo_cons]
    by_cases hc : c = 101 ∨ c = 69
    · rw [if_pos hc, if_pos hc]
      by_cases hd : figs (dsgn u).2 = []
      · rw [if_pos hd, if_pos (.inl hd)]
        exact ⟨fun _ => rfl, fun x r h => by cases h⟩
      · rw [if_neg hd]
        refine ⟨fun h => (by cases h), fun x r h hr => ?_⟩
        injection h with h
        injection h with h1 h2
        rw [if_pos (.inr (by rw [h2]; exact hr))]
    · rw [if_neg hc, if_neg hc]
      exact ⟨fun _ => rfl, fun _ _ _ _ => rfl⟩
theorem spx_len {r2 x r : List UInt8} (h : spx r2 = some (x, r)) : x.length ≤ r2.length := by
  cases r2 with
  | nil => unfold spx at h; injection h with h; injection h with h1 h2; rw [← h1]; exact Nat.le_refl _
  | cons c u =>
    rw [spx_cons] at h
    split at h
    · split at h
      · cases h
      · injection h with h
        injection h with h1 h2
        rw [← h1, List.length_take, List.length_cons]
        omega
    · injection h with h
      injection h with h1 h2
      rw [← h1]
      simp
/-- The parts by which both read a number. -/
theorem spl_rd (l : List UInt8) : (spl l = none → rd l = none) ∧ (∀ g a f x, spl l = some (g, a, f, x) → ∃ xe : Int, rd l = some (g, tl0 (tr0 (a ++ f)), xe + (a.length : Int) - ((tr0 (a ++ f)).length : Int)) ∧ XRel xe (rxe x) ∧ (∀ c ∈ a ++ f, dfig c = true) ∧ a.length + f.length + x.length ≤ l.length) := by
  have m1 := mns_len l
  have m2 := figs_len (mns l).2
  have m3 := bhd_len (rst (mns l).2)
  unfold spl rd
  simp only
  by_cases h1 : figs (mns l).2 = [] ∨ (1 < (figs (mns l).2).length ∧ (figs (mns l).2).take 1 = [48])
  · rw [if_pos h1, if_pos h1]
    exact ⟨fun _ => rfl, fun g a f x h => by cases h⟩
  · rw [if_neg h1, if_neg h1]
    by_cases h2 : (bhd (rst (mns l).2)).2.2 = false
    · rw [if_pos h2, if_pos h2]
      exact ⟨fun _ => rfl, fun g a f x h => by cases h⟩
    · rw [if_neg h2, if_neg h2]
      obtain ⟨n1, n2⟩ := expo_no (r2 := (bhd (rst (mns l).2)).2.1)
      cases hs : spx (bhd (rst (mns l).2)).2.1 with
      | none =>
        rw [n1 hs]
        exact ⟨fun _ => rfl, fun g a f x h => by cases h⟩
      | some xr =>
        obtain ⟨x, r⟩ := xr
        by_cases hr : r = []
        · subst hr
          obtain ⟨xe, e1, e2⟩ := spx_expo hs
          rw [e1]
          refine ⟨fun h => by simp at h, fun g a f y h => ?_⟩
          simp only [if_pos, Option.some.injEq, Prod.mk.injEq] at h
          obtain ⟨h3, h4, h5, h6⟩ := h
          subst h3 h4 h5 h6
          refine ⟨xe, rfl, e2, fun c hc => ?_, ?_⟩
          · rcases List.mem_append.1 hc with hc | hc
            · exact figs_all _ c hc
            · cases hb : rst (mns l).2 with
              | nil => rw [hb] at hc; cases hc
              | cons d u =>
                rw [hb] at hc
                by_cases h46 : ∃ v, d :: u = 46 :: v
                · obtain ⟨v, hv⟩ := h46
                  rw [hv, bhd_yes] at hc
                  exact figs_all _ c hc
                · rw [bhd_no h46] at hc
                  cases hc
          · have := spx_len hs
            omega
        · rw [n2 x r hs hr]
          refine ⟨fun _ => rfl, fun g a f y h => ?_⟩
          simp only [if_neg hr] at h
          cases h
end Go.Proofs.YtjdogiehcgfmjaaGreatDoor
end
section
namespace Go.Proofs.YtjdogiehcgfmjaaGreatDoor
open Go.RowKit Go.Shelf

theorem lt_pow10 {x k a : Nat} (h : x < 10 ^ k) (hk : k ≤ a) : x < 10 ^ a := Nat.lt_of_lt_of_le h (Nat.pow_le_pow_right (by decide) hk)

theorem rexp_any (x : List UInt8) (hl : x.length ≤ 1000) (w : World) : Calls Tryz.prog 37 #[.string (str x)] w fun e w' => e = .returned (.int .i64 (rxe x)) ∧ w' = w := by
  cases x with
  | nil => exact rexp_nil w
  | cons c u => exact rexp_cons c u hl w
theorem rxe_bounds (x : List UInt8) : -1000000 ≤ rxe x ∧ rxe x ≤ 1000000 := by
  cases x with
  | nil => exact ⟨by decide, by decide⟩
  | cons c u =>
    show -1000000 ≤ rxp (c :: u) ∧ rxp (c :: u) ≤ 1000000
    unfold rxp
    generalize xsz 0 (c :: u) = z
    split <;> omega
/-- Number answers what Parse does. -/
theorem rnumber_any (l : List UInt8) (hl : l.length ≤ 1000) (w : World) :
    Calls Tryz.prog 14 #[.string (str l)] w fun e w' => e = .returned (dpans l) ∧ Below w.heap.size w w' := by
  have hs := str_size l
  unfold dpans
  by_cases h400 : 400 < l.length
  · rw [if_pos h400]
    exact rnum_long (str l) (by omega) w
  · rw [if_neg h400]
    have k1 := fun W => split_walk l (mns l).2 (mns l).1 hl rfl (spl l) rfl W
    obtain ⟨e1, e2⟩ := spl_rd l
    cases hsp : spl l with
    | none =>
      rw [hsp] at k1
      rw [e1 hsp]
      exact rnum_syn (str l) (by omega) w k1
    | some q =>
      obtain ⟨g, a, f, x⟩ := q
      rw [hsp] at k1
      obtain ⟨xe, h1, h2, h3, h4⟩ := e2 g a f x hsp
      rw [h1]
      have k3 := fun W => rexp_any x (by omega) W
      obtain ⟨b1, b2⟩ := rxe_bounds x
      have hsa := str_size a
      have hsf := str_size f
      have hap : (str a ++ str f) = str (a ++ f) := str_app a f
      have hsap : (str (a ++ f)).size ≤ 500 := by rw [str_size, List.length_append]; omega
      have htr := tr0_len (a ++ f)
      rw [List.length_append] at htr
      rcases num_digits (a ++ f) h3 with ⟨d1, d2⟩ | ⟨n, d1, d2, d3, d4⟩
      · show Calls _ _ _ w fun e w' => e = .returned (if tl0 (tr0 (a ++ f)) = [] then _ else _) ∧ _
        rw [if_pos d1]
        exact rnum_zero (str l) (str a) (str f) (str x) g _ (rxe x) b1 b2 (by omega) (by omega) w k1 (fun W => by
          rw [hap]
          exact rdigits_yes (str (a ++ f)) 0 hsap _ rfl (by rw [str_data]; exact d2) W) k3
      · show Calls _ _ _ w fun e w' => e = .returned (if tl0 (tr0 (a ++ f)) = [] then _ else _) ∧ _
        rw [if_neg d3]
        have hN : n * 10 ^ ((a ++ f).length - (tr0 (a ++ f)).length) < 10 ^ 400 := by
          have := dgs_lt _ _ _ d1
          rw [Nat.zero_add, Nat.one_mul] at this
          exact lt_pow10 (a := 400) this (by rw [List.length_append]; omega)
        have hc := rnum_core (str l) (str a) (str f) (str x) g _ n ((a ++ f).length - (tr0 (a ++ f)).length) (rxe x) b1 b2 (by omega) (by omega) (by rw [List.length_append]; omega) d2 hN w k1 (fun W => by
          rw [hap]
          exact rdigits_yes (str (a ++ f)) _ hsap _ rfl (by rw [str_data]; exact d1) W) k3
        rw [num_join (g := g) (n := n) (p := xe + (a.length : Int) - ((tr0 (a ++ f)).length : Int)) d2 (by
          unfold XRel at h2
          rw [List.length_append, hsf]
          omega), ← d4] at hc
        exact hc
theorem dpans_form (l : List UInt8) : ∃ (k : Int) (g : Bool) (x : Nat) (y e : Int), dpans l = .tuple #[VV k g x y, .int .i64 e] := by
  have hz : VZ = VV 0 false 0 0 := by show VZ = .agg #[_, _, _, _, _, _, _, _, _, _]; simp only [lb_zero]
  have her : ∀ k, ∃ (kd : Int) (g : Bool) (x : Nat) (y e : Int), ER k = .tuple #[VV kd g x y, .int .i64 e] := fun k => ⟨0, false, 0, 0, k, by unfold ER; rw [hz]⟩
  unfold dpans
  split
  · exact her 8
  · split
    · exact her 3
    · split
      · exact ⟨3, false, 0, 0, 0, rfl⟩
      · split
        · exact her 5
        · unfold dpv
          split
          · split
            · exact ⟨_, _, _, _, _, rfl⟩
            · exact her 5
          · split
            · exact ⟨_, _, _, _, _, rfl⟩
            · exact her 5
set_option maxRecDepth 100000 in
set_option maxHeartbeats 2000000 in
theorem parses_long (S : ByteArray) (hS : 450 < (S.size : Int)) (w : World) (hT : Tb w) (hU : Tab w) : Calls Tryz.prog 3 #[.string S] w fun e w' => e = .returned (.bool true) ∧ Below w.heap.size w w' := by
  have HT := Lib.hid hT; have HU := Lib.hid hU
  clear hT hU
  go_enter Tryz.func3, Tryz.ntmps3
  go_wp2_with fail
  ((with_reducible refine (told4_true _ HT.out HU.out).mono ?_); rintro e w1 ⟨rfl, hb⟩)
  go_wp2
  go_ret
  exact ⟨rfl, hb⟩
set_option maxRecDepth 100000 in
set_option maxHeartbeats 4000000 in
theorem parses_core (S : ByteArray) (hS : ¬ 450 < (S.size : Int)) (k : Int) (g : Bool) (x : Nat) (y er : Int) (w : World) (hT : Tb w) (hU : Tab w)
    (k1 : ∀ W, Below w.heap.size w W → Calls Tryz.prog 13 #[.string S] W fun e w' => e = .returned (.tuple #[VV k g x y, .int .i64 er]) ∧ Below W.heap.size W w')
    (k2 : ∀ W, Below w.heap.size w W → Calls Tryz.prog 14 #[.string S] W fun e w' => e = .returned (.tuple #[VV k g x y, .int .i64 er]) ∧ Below W.heap.size W w') :
    Calls Tryz.prog 3 #[.string S] w fun e w' => e = .returned (.bool true) ∧ Below w.heap.size w w' := by
  have HT := Lib.hid hT; have HU := Lib.hid hU; have K1 := Lib.hid k1; have K2 := Lib.hid k2
  clear hT hU k1 k2
  go_enter Tryz.func3, Tryz.ntmps3
  go_wp2_with fail
  ((with_reducible refine (K1.out _ (Below.refl _ _)).mono ?_); rintro e w1 ⟨rfl, hb⟩)
  have B1 := Lib.hid hb
  clear hb
  go_wp2_with fail
  ((with_reducible refine (K2.out _ (bal B1.out _)).mono ?_); rintro e w2 ⟨rfl, hb⟩)
  have B2 := Lib.hid (btr (bal B1.out _) hb)
  have A2 := RowV.keep hb (RowV.new w1 (.int .i64 k) (.bool g) (.int .u64 (lb 0 x)) (.int .u64 (lb 1 x)) (.int .u64 (lb 2 x)) (.int .u64 (lb 3 x)) (.int .u64 y) (.string ⟨#[]⟩) (.slice none 0 0) (.slice none 0 0))
  clear hb B1
  go_wp2_with fail
  ((with_reducible refine (told4_true _ (tb_on HT.out (bal B2.out _)) (tab_on HU.out (bal B2.out _))).mono ?_); rintro e w3 ⟨rfl, hb⟩)
  have B3 := Lib.hid (btr (bal B2.out _) hb)
  have A3 := RowV.keep hb (RowV.alloc A2 _)
  have C3 := RowV.keep hb (RowV.new w2 (.int .i64 k) (.bool g) (.int .u64 (lb 0 x)) (.int .u64 (lb 1 x)) (.int .u64 (lb 2 x)) (.int .u64 (lb 3 x)) (.int .u64 y) (.string ⟨#[]⟩) (.slice none 0 0) (.slice none 0 0))
  clear hb A2 B2
  obtain ⟨p0, p1, p2, p3, p4, p5, p6, p7, p8, p9⟩ := A3.parts
  obtain ⟨q0, q1, q2, q3, q4, q5, q6, q7, q8, q9⟩ := C3.parts
  go_wp2_with fail
  ((with_reducible refine (same_self k g _ _ _ _ y _).mono ?_); rintro e w4 ⟨rfl, hb⟩)
  have B4 := Lib.hid (btr B3.out hb)
  clear hb
  go_wp2
  go_ret
  exact ⟨rfl, B4.out⟩
/-- The law, for any text. -/
theorem parses_any (s : ByteArray) (w : World) (hT : Tb w) (hU : Tab w) : Calls Tryz.prog 3 #[.string s] w fun e w' => e = .returned (.bool true) ∧ Below w.heap.size w w' := by
  by_cases h : 450 < (s.size : Int)
  · exact parses_long s h w hT hU
  · have he := str_eta s
    have hl : s.data.toList.length ≤ 450 := by rw [← str_size, he]; omega
    obtain ⟨k, g, x, y, er, hf⟩ := dpans_form s.data.toList
    refine parses_core s h k g x y er w hT hU (fun W hb => ?_) (fun W _ => ?_)
    · have := dparse_any s.data.toList W (tb_on hT hb)
      rw [he, hf] at this
      exact this
    · have := rnumber_any s.data.toList (by omega) W
      rw [he, hf] at this
      exact this
end Go.Proofs.YtjdogiehcgfmjaaGreatDoor
end
