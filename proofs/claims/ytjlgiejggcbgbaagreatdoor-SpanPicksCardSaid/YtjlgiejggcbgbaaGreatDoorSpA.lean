/-
  span.mayEnd, isWrong, isEmpty, holds, least, All; slices.IndexFunc, ContainsFunc at a list of spans and whatever predicate; span.May, Has: the contracts.
-/
import Derived.Test.YtjlgiejggcbgbaaGreatDoorSpMem
import Derived.Test.YtjlgiejggcbgbaaGreatDoorWholeF
import Derived.Deep.LoopGhost
namespace Go.Proofs.YtjlgiejggcbgbaaGreatDoor
open Go.RowKit Go.Shelf
attribute [local go_sem ↓] eql_nat neq_nat eql_int5 neq_int5

theorem ret_bool9 {a b : Bool} (h : a = b) : Ending.returned (.bool a) = .returned (.bool b) := by rw [h]
theorem mayend_yes (g : Bool) (x0 x1 x2 x3 : Int) (c : Bool) (k : ∀ W, Calls Tryz.prog 26 #[.agg #[.bool g, .int .u64 x0, .int .u64 x1, .int .u64 x2, .int .u64 x3]] W fun e w' => e = .returned (.bool c) ∧ Below W.heap.size W w') (w : World) :
    Calls Tryz.prog 63 #[.bool true, .agg #[.bool g, .int .u64 x0, .int .u64 x1, .int .u64 x2, .int .u64 x3]] w fun e w' => e = .returned (.bool c) ∧ Below w.heap.size w w' := by
  have K := Lib.hid k; clear k
  go_enter Tryz.func63, Tryz.ntmps63
  go_wp2_with (go_at_call 26; ((with_reducible refine (K.out _).mono ?_); rintro e w1 ⟨rfl, hb1⟩))
  go_ret
  exact ⟨rfl, btr (bal (Below.refl _ _) _) hb1⟩
theorem mayend_no (g : Bool) (x0 x1 x2 x3 : Int) (w : World) :
    Calls Tryz.prog 63 #[.bool false, .agg #[.bool g, .int .u64 x0, .int .u64 x1, .int .u64 x2, .int .u64 x3]] w fun e w' => e = .returned (.bool (eq5 g x0 x1 x2 x3 false 0 0 0 0)) ∧ Below w.heap.size w w' := by
  go_enter Tryz.func63, Tryz.ntmps63
  go_wp2
  go_ret
  exact ⟨rfl, bal (Below.refl _ _) _⟩
/-- span.mayEnd. -/
theorem mayend_any (t g : Bool) (x : Nat) (hx : x < 2 ^ 256) (w : World) : Calls Tryz.prog 63 #[.bool t, I5 g x] w fun e w' => e = .returned (.bool (mayE t g x)) ∧ Below w.heap.size w w' := by
  cases t with
  | true =>
    rcases int_or g x with ⟨z, hz, hn⟩ | ⟨rfl, rfl⟩
    · have k : ∀ W, Calls Tryz.prog 26 #[I5 g x] W fun e w' => e = .returned (.bool true) ∧ Below W.heap.size W w' := fun W => by rw [hz]; exact may_yes z (by omega) W
      refine (mayend_yes _ _ _ _ _ true k w).mono ?_
      rintro e w' ⟨rfl, hb⟩
      refine ⟨ret_bool9 ?_, hb⟩
      unfold mayE
      rw [if_pos rfl]
      cases g with
      | false => rfl
      | true =>
        by_cases h0 : x = 0
        · subst h0
          exfalso
          have : I5 true 0 = Iz 0 := by rw [hz]; congr 1; omega
          rw [show Iz 0 = I5 false 0 from Iz_nat 0] at this
          unfold I5 at this
          simp at this
        · rw [decide_eq_false h0]; rfl
    · exact mayend_yes _ _ _ _ _ false (fun W => may_no W) w
  | false =>
    refine (mayend_no _ _ _ _ _ w).mono ?_
    rintro e w' ⟨rfl, hb⟩
    refine ⟨ret_bool9 ?_, hb⟩
    unfold eq5 mayE
    rw [zq x hx, if_neg (by simp)]
    cases g <;> rfl

set_option maxRecDepth 100000 in
theorem iswrong_core (hl hh gl : Bool) (a0 a1 a2 a3 : Int) (gh : Bool) (b0 b1 b2 b3 : Int) (c1 c2 : Bool)
    (k1 : ∀ W, Calls Tryz.prog 63 #[.bool hl, .agg #[.bool gl, .int .u64 a0, .int .u64 a1, .int .u64 a2, .int .u64 a3]] W fun e w' => e = .returned (.bool c1) ∧ Below W.heap.size W w')
    (k2 : ∀ W, Calls Tryz.prog 63 #[.bool hh, .agg #[.bool gh, .int .u64 b0, .int .u64 b1, .int .u64 b2, .int .u64 b3]] W fun e w' => e = .returned (.bool c2) ∧ Below W.heap.size W w') (w : World) :
    Calls Tryz.prog 38 #[V12 hl hh gl a0 a1 a2 a3 gh b0 b1 b2 b3] w fun e w' => e = .returned (.bool (!(c1 && c2))) ∧ Below w.heap.size w w' := by
  have K1 := Lib.hid k1; have K2 := Lib.hid k2; clear k1 k2
  go_enter Tryz.func38, Tryz.ntmps38
  cases c1 with
  | false =>
    go_wp2_with (go_at_call 63; ((with_reducible refine (K1.out _).mono ?_); rintro e w1 ⟨rfl, hb1⟩))
    go_ret
    exact ⟨rfl, btr (bal (Below.refl _ _) _) hb1⟩
  | true =>
    go_wp2_with fail
    ((with_reducible refine (K1.out _).mono ?_); rintro e w1 ⟨rfl, hb⟩)
    have X1 := Row12.keep hb (Row12.new w (.bool hl) (.bool hh) (.bool gl) (.int .u64 a0) (.int .u64 a1) (.int .u64 a2) (.int .u64 a3) (.bool gh) (.int .u64 b0) (.int .u64 b1) (.int .u64 b2) (.int .u64 b3))
    have B1 := Lib.hid (btr (bal (Below.refl w.heap.size w) _) hb)
    clear hb
    obtain ⟨p0, p1, p2, p3, p4, p5, p6, p7, p8, p9, p10, p11⟩ := X1.parts
    go_wp2_with (go_at_call 63; ((with_reducible refine (K2.out _).mono ?_); rintro e w2 ⟨rfl, hb2⟩))
    go_ret
    exact ⟨rfl, btr B1.out hb2⟩
/-- span.isWrong. -/
theorem iswrong_any (r : RS) (hl : r.xl < 2 ^ 256) (hh : r.xh < 2 ^ 256) (w : World) : Calls Tryz.prog 38 #[r.val] w fun e w' => e = .returned (.bool (!mayR r)) ∧ Below w.heap.size w w' :=
  iswrong_core r.hl r.hh r.gl _ _ _ _ r.gh _ _ _ _ (mayE r.hl r.gl r.xl) (mayE r.hh r.gh r.xh) (fun W => mayend_any _ _ _ hl W) (fun W => mayend_any _ _ _ hh W) w

theorem any_take9 {α : Type} {l : List α} {k : Nat} {t : α} {p : α → Bool} (h : l[k]? = some t) : (l.take (k + 1)).any p = ((l.take k).any p || p t) := by
  have : l.take (k + 1) = l.take k ++ [t] := by
    obtain ⟨hk, rfl⟩ := List.getElem?_eq_some_iff.1 h
    exact List.take_succ_eq_append_getElem hk
  rw [this, List.any_append]; simp
theorem any_hit9 {α : Type} {l : List α} {t : α} {p : α → Bool} (h : t ∈ l) (hp : p t = true) : l.any p = true := List.any_eq_true.2 ⟨t, h, hp⟩
/-- An index, or -1: is there one? -/
def Idx9 (b : Bool) (w : World) (e : Ending) (w' : World) : Prop := ∃ n : Int, e = .returned (.int .i64 n) ∧ decide (0 ≤ n) = b ∧ Below w.heap.size w w'
theorem Idx9.mk {b : Bool} {w w' : World} {n : Int} (h : decide (0 ≤ n) = b) (hb : Below w.heap.size w w') : Idx9 b w (.returned (.int .i64 n)) w' := ⟨n, rfl, h, hb⟩

set_option maxHeartbeats 1000000 in
theorem sindex (g : Nat) (lb : Array Value) (eg : ∀ args w, (callFunc g args).run Tryz.prog w = .ok (.enter g args) w) (p : RS → Bool) (la : Option Addr) (lc : Nat) (l : List RS) (bb off : Nat) (w : World) (hK : Ls w la l bb off)
    (hp : ∀ t ∈ l, ∀ W, Below w.heap.size w W → Calls Tryz.prog g (#[t.val] ++ lb) W fun e w' => e = .returned (.bool (p t)) ∧ Below W.heap.size W w') :
    Calls Tryz.prog 55 #[.slice la l.length lc, .func (.func g) #[] lb] w (Idx9 (l.any p) w) := by
  have hn := hK.len
  have HK := Lib.hid hK; have HP := Lib.hid hp
  clear hK hp
  go_enter Tryz.func55, Tryz.ntmps55
  go_wp2
  go_loopw [5, 8] (fun _ i wr => ∃ k : Nat, k ≤ l.length ∧ i = .int .i64 k ∧ Hid (Below w.heap.size w wr) ∧ Hid ((l.take k).any p = false)) (fun _ i _ => l.length - (intOf i).toNat)
  case atStart => exact ⟨0, Nat.zero_le _, rfl, Below.refl _ _, (show Hid _ from by show _ = _; simp)⟩
  case round =>
    obtain ⟨k, hk, rfl, BW, AN⟩ := hrel
    by_cases hlt : k < l.length
    · obtain ⟨t, ht, hm⟩ := span_at hlt
      have hr := (HK.out.cells k t ht).keep BW.out
      obtain rfl : la = some ⟨bb, off, none⟩ := HK.out.la (by omega)
      have hcall := HP.out t hm wr BW.out
      have hnx := any_take9 (p := p) ht
      have hhit := any_hit9 (p := p) hm
      have hpt : ∃ q, p t = q := ⟨_, rfl⟩
      obtain ⟨q, hq⟩ := hpt
      rw [hq] at hcall hnx hhit
      obtain ⟨thl, thh, tgl, txl, tgh, txh⟩ := t
      simp only [RS.val] at hcall
      obtain ⟨c0, c1, c2, c3, c4, c5, c6, c7, c8, c9, c10, c11⟩ := hr.twelve
      clear hr
      have HCALL := Lib.hid hcall; have HNX := Lib.hid hnx; have HHT := Lib.hid ht; have HH := Lib.hid hhit; have HQ := Lib.hid hq
      clear hcall hnx ht hhit hq
      cases q with
      | true =>
        go_wp2_with (go_at_fn g; (with_reducible refine HCALL.out.mono ?_); rintro e w1 ⟨rfl, hb1⟩)
        go_ret
        exact Idx9.mk (by rw [show l.any p = true from HH.out trivial]; exact decide_eq_true (by omega)) (btr BW.out hb1)
      | false =>
        go_wp2_with (go_at_fn g; (with_reducible refine HCALL.out.mono ?_); rintro e w1 ⟨rfl, hb1⟩)
        go_roundw
        case rel => exact ⟨k + 1, by omega, by go_num, btr BW.out hb1, (show Hid _ from by show _ = _; rw [HNX.out, AN.out]; rfl)⟩
        case measure => simp [intOf]; omega
    · have hge : ¬ (k : Int) < (l.length : Int) := by omega
      have HF : Hid (l.any p = false) := by
        have := AN.out
        rw [List.take_of_length_le (by omega)] at this
        exact this
      go_wp2
      go_ret
      exact Idx9.mk (by rw [HF.out]; rfl) BW.out
/-- slices.ContainsFunc at a list of spans. -/
theorem scontains (g : Nat) (lb : Array Value) (eg : ∀ args w, (callFunc g args).run Tryz.prog w = .ok (.enter g args) w) (p : RS → Bool) (la : Option Addr) (lc : Nat) (l : List RS) (bb off : Nat) (w : World) (hK : Ls w la l bb off)
    (hp : ∀ t ∈ l, ∀ W, Below w.heap.size w W → Calls Tryz.prog g (#[t.val] ++ lb) W fun e w' => e = .returned (.bool (p t)) ∧ Below W.heap.size W w') :
    Calls Tryz.prog 27 #[.slice la l.length lc, .func (.func g) #[] lb] w fun e w' => e = .returned (.bool (l.any p)) ∧ Below w.heap.size w w' := by
  have H := Lib.hid (sindex g lb eg p la lc l bb off w hK hp)
  clear hK hp
  go_enter Tryz.func27, Tryz.ntmps27
  go_wp2_with fail
  (with_reducible refine H.out.mono ?_)
  rintro e w1 ⟨n, rfl, hn, hb1⟩
  have HN := Lib.hid hn; have HB := Lib.hid hb1
  clear hn hb1
  go_wp2
  go_ret
  exact ⟨ret_bool9 HN.out, HB.out⟩

theorem may_core9 (la : Option Addr) (n lc : Nat) (c : Bool) (hn : n ≤ 9223372036854775807) (w : World)
    (k : ∀ W, Below w.heap.size w W → Calls Tryz.prog 27 #[.slice la n lc, .func (.func 38) #[] #[]] W fun e w' => e = .returned (.bool c) ∧ Below W.heap.size W w') :
    Calls Tryz.prog 16 #[.slice la n lc] w fun e w' => e = .returned (.bool (decide (n ≤ 1000) && !c)) ∧ Below w.heap.size w w' := by
  have K := Lib.hid k; clear k
  by_cases h : n ≤ 1000
  · have e1 : (n : Int) ≤ 1000 := by omega
    have HD := Lib.hid (decide_eq_true h)
    clear h
    go_enter Tryz.func16, Tryz.ntmps16
    go_wp2_with (go_at_call 27; ((with_reducible refine (K.out _ (Below.refl _ _)).mono ?_); rintro e w1 ⟨rfl, hb1⟩))
    go_ret
    exact ⟨by rw [HD.out]; rfl, hb1⟩
  · have e1 : ¬ (n : Int) ≤ 1000 := by omega
    have HD := Lib.hid (decide_eq_false h)
    clear h
    go_enter Tryz.func16, Tryz.ntmps16
    go_wp2
    go_ret
    exact ⟨by rw [HD.out]; rfl, Below.refl _ _⟩
/-- Which lists of spans may be. -/
def mayL (l : List RS) : Bool := decide (l.length ≤ 1000) && l.all mayR
/-- span.May. -/
theorem smay (la : Option Addr) (lc : Nat) (l : List RS) (bb off : Nat) (w : World) (hK : Ls w la l bb off) (hx : ∀ r ∈ l, r.xl < 2 ^ 256 ∧ r.xh < 2 ^ 256) :
    Calls Tryz.prog 16 #[.slice la l.length lc] w fun e w' => e = .returned (.bool (mayL l)) ∧ Below w.heap.size w w' := by
  refine (may_core9 la l.length lc (l.any fun r => !mayR r) hK.len w fun W hW => scontains _ #[] (enters_of Tryz.func38 (by kernel_rfl) rfl) (fun r => !mayR r) la lc l bb off W (hK.keep hW) fun t ht W' _ => iswrong_any t (hx t ht).1 (hx t ht).2 W').mono ?_
  rintro e w' ⟨rfl, hb⟩
  refine ⟨ret_bool9 ?_, hb⟩
  unfold mayL
  rw [List.not_any_eq_all_not]
  simp
theorem mayL_sp {A : List Sp} (h : ∀ s ∈ A, SpR s) : mayL (A.map rsp) = decide (A.length ≤ 1000) := by
  unfold mayL
  rw [rsp_all h, List.length_map, Bool.and_true]
theorem rsp_bounds {A : List Sp} (h : ∀ s ∈ A, SpR s) : ∀ r ∈ A.map rsp, r.xl < 2 ^ 256 ∧ r.xh < 2 ^ 256 := by
  intro r hr
  obtain ⟨s, hs, rfl⟩ := List.mem_map.1 hr
  exact (rsp_may (h s hs)).2

/-- The least number of all. -/
theorem topM_lb : lb 0 topM.natAbs = 18446744073709551615 ∧ lb 1 topM.natAbs = 18446744073709551615 ∧ lb 2 topM.natAbs = 18446744073709551615 ∧ lb 3 topM.natAbs = 18446744073709551615 := by
  have h : topM.natAbs = 115792089237316195423570985008687907853269984665640564039457584007913129639935 := rfl
  rw [h, lb0, lb1, lb2, lb3]
  decide
theorem Iz_least : Iz (-topM) = .agg #[.bool true, .int .u64 18446744073709551615, .int .u64 18446744073709551615, .int .u64 18446744073709551615, .int .u64 18446744073709551615] := by
  obtain ⟨h0, h1, h2, h3⟩ := topM_lb
  unfold Iz I5
  rw [Int.natAbs_neg, h0, h1, h2, h3]
  rfl
theorem least_raw (w : World) : Calls Tryz.prog 58 #[] w fun e w' => e = .returned (.agg #[.bool true, .int .u64 18446744073709551615, .int .u64 18446744073709551615, .int .u64 18446744073709551615, .int .u64 18446744073709551615]) ∧ Below w.heap.size w w' := by
  go_enter Tryz.func58, Tryz.ntmps58
  go_wp2
  exact bodyPost_ret (v := .agg #[.bool true, .int .u64 18446744073709551615, .int .u64 18446744073709551615, .int .u64 18446744073709551615, .int .u64 18446744073709551615]) (by simp [results, Tryz.results58, go_sem]) rfl ⟨rfl, by repeat (first | exact Below.refl _ _ | refine bal ?_ _)⟩
end Go.Proofs.YtjlgiejggcbgbaaGreatDoor
