/-
  slices.IndexFunc, slices.ContainsFunc at a list of values and whatever predicate; value.deeper, value.left, value.has: the contracts.
-/
import Derived.Test.YtfaaagmjmljhiaaGreatDoorValDepth
import Derived.Deep.LoopGhost
namespace Go.Proofs.YtfaaagmjmljhiaaGreatDoor
open Go.RowKit Go.Shelf

/-- An index, or -1: is there one? -/
def IdxIs (b : Bool) (w : World) (e : Ending) (w' : World) : Prop := ∃ n : Int, e = .returned (.int .i64 n) ∧ decide (0 ≤ n) = b ∧ Below w.heap.size w w'
theorem IdxIs.mk {b : Bool} {w w' : World} {n : Int} (h : decide (0 ≤ n) = b) (hb : Below w.heap.size w w') : IdxIs b w (.returned (.int .i64 n)) w' := ⟨n, rfl, h, hb⟩

theorem ret_bool {a b : Bool} (h : a = b) : Ending.returned (.bool a) = .returned (.bool b) := by rw [h]
theorem any_take_next {kids : List VT} {k : Nat} {t : VT} {p : VT → Bool} (h : kids[k]? = some t) : (kids.take (k + 1)).any p = ((kids.take k).any p || p t) := by
  rw [take_next h, List.any_append]; simp
theorem any_of_hit {kids : List VT} {t : VT} {p : VT → Bool} (h : t ∈ kids) (hp : p t = true) : kids.any p = true := List.any_eq_true.2 ⟨t, h, hp⟩

set_option maxHeartbeats 1000000 in
theorem vindex (g : Nat) (lb : Array Value) (eg : ∀ args w, (callFunc g args).run Tryz.prog w = .ok (.enter g args) w) (p : VT → Bool) (la : Option Addr) (lc : Nat) (kids : List VT) (bb off : Nat) (w : World) (hK : Kids w la kids bb off)
    (hp : ∀ t ∈ kids, ∀ W, Below w.heap.size w W → Calls Tryz.prog g (#[t.val] ++ lb) W fun e w' => e = .returned (.bool (p t)) ∧ Below W.heap.size W w') :
    Calls Tryz.prog 76 #[.slice la kids.length lc, .func (.func g) #[] lb] w (IdxIs (kids.any p) w) := by
  have hn := hK.len
  have HK := Lib.hid hK; have HP := Lib.hid hp
  clear hK hp
  go_enter Tryz.func76, Tryz.ntmps76
  go_wp2
  go_loopw [5, 8] (fun _ i wr => ∃ k : Nat, k ≤ kids.length ∧ i = .int .i64 k ∧ Hid (Below w.heap.size w wr) ∧ Hid ((kids.take k).any p = false)) (fun _ i _ => kids.length - (intOf i).toNat)
  case atStart => exact ⟨0, Nat.zero_le _, rfl, Below.refl _ _, (show Hid _ from by show _ = _; simp)⟩
  case round =>
    obtain ⟨k, hk, rfl, BW, AN⟩ := hrel
    by_cases hlt : k < kids.length
    · obtain ⟨t, ht, hm⟩ := kid_at hlt
      have hr := (HK.out.cells k t ht).keep BW.out
      obtain rfl : la = some ⟨bb, off, none⟩ := HK.out.la (by omega)
      have hcall := HP.out t hm wr BW.out
      have hnx := any_take_next (p := p) ht
      have hhit := any_of_hit (p := p) hm
      have hpt : ∃ q, p t = q := ⟨_, rfl⟩
      obtain ⟨q, hq⟩ := hpt
      rw [hq] at hcall hnx hhit
      obtain ⟨o2, l2⟩ := t
      obtain ⟨kd2, g2, x2, b2, s2, la2, lc2, ka2, kc2, ks2⟩ := o2
      simp only [VT.val, VT.cells, VT.o_mk, VT.kids_mk] at hcall
      obtain ⟨c0, c1, c2, c3, c4, c5, c6, c7, c8, c9⟩ := hr.ten
      clear hr
      have HCALL := Lib.hid hcall; have HNX := Lib.hid hnx; have HHT := Lib.hid ht; have HH := Lib.hid hhit; have HQ := Lib.hid hq
      clear hcall hnx ht hhit hq
      cases q with
      | true =>
        go_wp2_with (go_at_fn g; (with_reducible refine HCALL.out.mono ?_); rintro e w1 ⟨rfl, hb1⟩)
        go_ret
        exact IdxIs.mk (by rw [show kids.any p = true from HH.out trivial]; exact decide_eq_true (by omega)) (btr BW.out hb1)
      | false =>
        go_wp2_with (go_at_fn g; (with_reducible refine HCALL.out.mono ?_); rintro e w1 ⟨rfl, hb1⟩)
        go_roundw
        case rel => exact ⟨k + 1, by omega, by go_num, btr BW.out hb1, (show Hid _ from by show _ = _; rw [HNX.out, AN.out]; rfl)⟩
        case measure => simp [intOf]; omega
    · have hge : ¬ (k : Int) < (kids.length : Int) := by omega
      have HF : Hid (kids.any p = false) := by
        have := AN.out
        rw [List.take_of_length_le (by omega)] at this
        exact this
      go_wp2
      go_ret
      exact IdxIs.mk (by rw [HF.out]; rfl) BW.out
/-- slices.ContainsFunc at a list of values. -/
theorem vcontains (g : Nat) (lb : Array Value) (eg : ∀ args w, (callFunc g args).run Tryz.prog w = .ok (.enter g args) w) (p : VT → Bool) (la : Option Addr) (lc : Nat) (kids : List VT) (bb off : Nat) (w : World) (hK : Kids w la kids bb off)
    (hp : ∀ t ∈ kids, ∀ W, Below w.heap.size w W → Calls Tryz.prog g (#[t.val] ++ lb) W fun e w' => e = .returned (.bool (p t)) ∧ Below W.heap.size W w') :
    Calls Tryz.prog 41 #[.slice la kids.length lc, .func (.func g) #[] lb] w fun e w' => e = .returned (.bool (kids.any p)) ∧ Below w.heap.size w w' := by
  have H := Lib.hid (vindex g lb eg p la lc kids bb off w hK hp)
  clear hK hp
  go_enter Tryz.func41, Tryz.ntmps41
  go_wp2_with fail
  (with_reducible refine H.out.mono ?_)
  rintro e w1 ⟨n, rfl, hn, hb1⟩
  have HN := Lib.hid hn; have HB := Lib.hid hb1
  clear hn hb1
  go_wp2
  go_ret
  exact ⟨ret_bool HN.out, HB.out⟩
end Go.Proofs.YtfaaagmjmljhiaaGreatDoor
