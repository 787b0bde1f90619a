/-
  span.sweep: the contract.
-/
import Derived.Test.YtjlgiejggcbgbaaGreatDoorSQ
namespace Go.Proofs.YtjlgiejggcbgbaaGreatDoor
open Go.RowKit Go.Shelf
open Go.Sort (grow)
attribute [local go_sem ↓] eql_nat neq_nat eql_int5 neq_int5

/-- A block that holds one edge. -/
def Row7 (W : World) (b : Nat) (g : Bool) (a0 a1 a2 a3 li mo : Int) : Prop := W.heap[b]? = some (.cells #[.bool g, .int .u64 a0, .int .u64 a1, .int .u64 a2, .int .u64 a3, .int .i64 li, .int .i64 mo] 76 (0, 0))
theorem Row7.lt {W : World} {b : Nat} {g : Bool} {a0 a1 a2 a3 li mo : Int} (h : Row7 W b g a0 a1 a2 a3 li mo) : b < W.heap.size := by unfold Row7 at h; exact (Array.getElem?_eq_some_iff.1 h).1
theorem Row7.keep {W W' : World} {b : Nat} {g : Bool} {a0 a1 a2 a3 li mo : Int} (hb : Below W.heap.size W W') (h : Row7 W b g a0 a1 a2 a3 li mo) : Row7 W' b g a0 a1 a2 a3 li mo := (hb.block b h.lt).trans h
theorem Row7.set {W : World} {b : Nat} {g : Bool} {a0 a1 a2 a3 li mo : Int} (h : Row7 W b g a0 a1 a2 a3 li mo) {c i : Nat} (hne : b ≠ c) (u : Value) : Row7 (W.setCell ⟨c, i, none⟩ u) b g a0 a1 a2 a3 li mo := (Below.heap_setCell W ⟨c, i, none⟩ u b hne).trans h
theorem Row7.parts {W : World} {b : Nat} {g : Bool} {a0 a1 a2 a3 li mo : Int} (h : Row7 W b g a0 a1 a2 a3 li mo) : W.cell? ⟨b, 0, none⟩ = some (.bool g) ∧ W.cell? ⟨b, 1, none⟩ = some (.int .u64 a0) ∧ W.cell? ⟨b, 2, none⟩ = some (.int .u64 a1) ∧ W.cell? ⟨b, 3, none⟩ = some (.int .u64 a2) ∧ W.cell? ⟨b, 4, none⟩ = some (.int .u64 a3) ∧ W.cell? ⟨b, 5, none⟩ = some (.int .i64 li) ∧ W.cell? ⟨b, 6, none⟩ = some (.int .i64 mo) :=
  ⟨cell_of_row W b 0 _ _ _ h, cell_of_row W b 1 _ _ _ h, cell_of_row W b 2 _ _ _ h, cell_of_row W b 3 _ _ _ h, cell_of_row W b 4 _ _ _ h, cell_of_row W b 5 _ _ _ h, cell_of_row W b 6 _ _ _ h⟩
theorem Row7.new' (W : World) {b : Nat} (hb : W.heap.size = b) (g : Bool) (a0 a1 a2 a3 li mo : Int) : Row7 (W.alloc (.cells #[.bool g, .int .u64 a0, .int .u64 a1, .int .u64 a2, .int .u64 a3, .int .i64 li, .int .i64 mo] 76)) b g a0 a1 a2 a3 li mo := by subst hb; exact heap_alloc_new W _
theorem Row7.new (W : World) (g : Bool) (a0 a1 a2 a3 li mo : Int) : Row7 (W.alloc (.cells #[.bool g, .int .u64 a0, .int .u64 a1, .int .u64 a2, .int .u64 a3, .int .i64 li, .int .i64 mo] 76)) W.heap.size g a0 a1 a2 a3 li mo := heap_alloc_new W _
theorem SwI.below {w : World} {D g : Nat} {l : List Ev} {f : Bool → Bool → Bool} {Tall : List Int} {wr : World} {o : Value} {k : Nat} {T : List Int} {d0 d1 : Int} {p : Bool} (h : SwI w D g l f Tall wr o k T d0 d1 p) {w' : World} (hb : Below wr.heap.size wr w') : SwI w D g l f Tall w' o k T d0 d1 p :=
  ⟨own_keep9 h.row hb, (hb.block D h.dep.lt).trans h.dep, h.le.keep hb, btr h.bw hb, h.tot, h.par, h.b0, h.b1⟩

set_option maxRecDepth 100000 in
set_option maxHeartbeats 16000000 in
theorem sweep_loop (f : Bool → Bool → Bool) (gf : Nat) (eg : ∀ args w, (callFunc gf args).run Tryz.prog w = .ok (.enter gf args) w) (hf : ∀ x y W, Calls Tryz.prog gf #[.bool x, .bool y] W fun e w' => e = .returned (.bool (f x y)) ∧ W = w')
    (la : Option Addr) (lca : Nat) (A : List Sp) (bba offa : Nat) (lb' : Option Addr) (lcb : Nat) (B : List Sp) (bbb offb : Nat) (w : World) (hA : ∀ s ∈ A, SpR s) (hB : ∀ s ∈ B, SpR s) (hlA : Ls w la (A.map rsp) bba offa) (hlB : Ls w lb' (B.map rsp) bbb offb) (hnA : A.length ≤ 1000) (hnB : B.length ≤ 1000)
    (m1 : Calls Tryz.prog 16 #[.slice la A.length lca] w fun e w' => e = .returned (.bool true) ∧ Below w.heap.size w w')
    (m2 : ∀ W, Below w.heap.size w W → Calls Tryz.prog 16 #[.slice lb' B.length lcb] W fun e w' => e = .returned (.bool true) ∧ Below W.heap.size W w') :
    Calls Tryz.prog 33 #[.slice la A.length lca, .slice lb' B.length lcb, .func (.func gf) #[] #[]] w fun e w' => ∃ v, e = .returned v ∧ ∃ T, Bs w' w.heap.size v (outL T) ∧ (∃ l' : List Ev, l'.Perm (allV A B) ∧ l'.Pairwise (fun a b => a.1.val ≤ b.1.val) ∧ T = walkT f (l'.map edE) 0 0 false) ∧ Below w.heap.size w w' := by
  have M1 := Lib.hid m1; have M2 := Lib.hid m2; have HF := Lib.hid hf; have LA := Lib.hid hlA; have LB := Lib.hid hlB; have HA := Lib.hid hA; have HB := Lib.hid hB
  clear m1 m2 hf hlA hlB hA hB
  go_enter Tryz.func33, Tryz.ntmps33
  go_wp2_with fail
  ((with_reducible refine M1.out.mono ?_); rintro e w1 ⟨rfl, hb1⟩)
  go_wp2_with fail
  ((with_reducible refine (M2.out _ hb1).mono ?_); rintro e w2 ⟨rfl, hb⟩)
  have B2 := Lib.hid (btr hb1 hb)
  clear hb hb1
  go_wp2_with fail
  ((with_reducible refine (least_raw _).mono ?_); rintro e w3 ⟨rfl, hb⟩)
  have B3 := Lib.hid (btr B2.out hb)
  have hsz3 := B3.out.size
  clear hb
  have E3 : Hid (Be (w3.alloc (.cells #[.bool true, .int .u64 18446744073709551615, .int .u64 18446744073709551615, .int .u64 18446744073709551615, .int .u64 18446744073709551615, .int .i64 0, .int .i64 0] 76)) w.heap.size (.slice (some ⟨w3.heap.size, 0, none⟩) 1 1) [mkE (-topM) least_abs 0 0]) := Lib.hid (by
    refine ⟨rfl, .inr ⟨w3.heap.size, 1, _, rfl, hsz3, heap_alloc_new w3 _, Nat.le_refl _, by unfold maxLen; omega, rfl, ?_⟩⟩
    obtain ⟨t0, t1, t2, t3⟩ := topM_lb
    show _ = encE (mkE (-topM) least_abs 0 0) ++ []
    unfold encE mkE
    simp only [Int.natAbs_neg, t0, t1, t2, t3, decide_eq_true (by have := topM_pos; omega : -topM < 0)]
    rfl)
  go_wp2_with fail
  ((with_reducible refine (appedges 0 la lca A bba offa _ _ w.heap.size _ E3.out (by simp; omega) (LA.out.keep (bal B3.out _)) (fun h => LA.out.lt (by rw [List.length_map]; exact h)) HA.out hnA (by simp)).mono ?_); rintro e w4 ⟨v4, rfl, BE4, ON4⟩)
  have F4 := ON4.frame (base := w.heap.size) (by simp; omega) (fun g hg => (own_base9 E3.out g hg).1)
  have B4 := Lib.hid ((bal B3.out _).trans F4)
  have hsz4 := B4.out.size
  have HBE4 := Lib.hid BE4
  clear BE4 ON4 F4 E3
  go_wp2_with fail
  ((with_reducible refine (appedges 1 lb' lcb B bbb offb _ _ w.heap.size _ HBE4.out hsz4 (LB.out.keep B4.out) (fun h => LB.out.lt (by rw [List.length_map]; exact h)) HB.out hnB (by have := evs_flat_len 0 A; rw [List.length_append]; simp only [List.length_singleton]; omega)).mono ?_); rintro e w5 ⟨v5, rfl, BE5, ON5⟩)
  have F5 := ON5.frame (base := w.heap.size) hsz4 (fun g hg => (own_base9 HBE4.out g hg).1)
  have B5 := Lib.hid (B4.out.trans F5)
  clear ON5 F5
  have BE5' : Be w5 w.heap.size v5 (allV A B) := BE5
  have hlen5 := allV_len A B
  have hpos5 : 0 < (allV A B).length := by unfold allV; rw [List.length_append, List.length_append]; simp only [List.length_singleton]; omega
  have hmem5 := allV_mem (A := A) (B := B)
  have hR5 : ∀ e ∈ allV A B, -topM ≤ e.1.val ∧ e.1.val ≤ topM := fun e _ => inR_abs.2 e.1.property
  clear BE5
  obtain ⟨L5, hL5⟩ : ∃ L, allV A B = L := ⟨_, rfl⟩
  rw [hL5] at BE5' hlen5 hpos5 hmem5 hR5
  have HL5 := Lib.hid hL5
  clear hL5
  obtain ⟨g5, cap5, rfl⟩ : ∃ g cap, v5 = .slice (some ⟨g, 0, none⟩) L5.length cap := by
    rcases BE5'.2 with ⟨_, h3⟩ | ⟨g, cap, cur, h3, _⟩
    · omega
    · exact ⟨g, cap, h3⟩
  have hg5 := own_base9 BE5' g5 rfl
  have hsort := sortE w.heap.size g5 cap5 L5 w5 BE5' (by omega)
  have HS := Lib.hid hsort
  clear hsort BE5' HBE4
  go_wp2_with fail
  ((with_reducible refine HS.out.mono ?_); rintro e w6 ⟨rfl, l', hp, hs, hLE, hgr⟩)
  have hlen6 := hp.length_eq
  have B6 := Lib.hid (show Below w.heap.size w w6 from B5.out.trans ⟨hgr.os, hgr.tape, hgr.output, hgr.size, fun k hk => hgr.block k (Nat.lt_of_lt_of_le hk B5.out.size) (fun hc => by have := Option.some.inj hc; omega)⟩)
  have hsz6 := B6.out.size
  have hg6 : g5 < w6.heap.size := Nat.lt_of_lt_of_le hg5.2 hgr.size
  have HLE := Lib.hid hLE
  have HM : Hid (∀ e ∈ l', (e.2.1 = 0 ∨ e.2.1 = 1) ∧ -1 ≤ e.2.2 ∧ e.2.2 ≤ 1) := Lib.hid (fun e he => hmem5 e (hp.mem_iff.1 he))
  have hasc : Asc (l'.map edE) := List.pairwise_map.2 hs
  have hrng : ∀ b ∈ l'.map edE, -topM ≤ b.1 ∧ b.1 ≤ topM := fun b hb => by obtain ⟨e, he, rfl⟩ := List.mem_map.1 hb; exact hR5 e (hp.mem_iff.1 he)
  have HINC := Lib.hid (walkT_inc f (l'.map edE) (-topM) 0 0 false hasc hrng)
  have HTL : Hid ((walkT f (l'.map edE) 0 0 false).length ≤ 4001) := Lib.hid (by have := walkT_len f (l'.map edE) 0 0 false; rw [List.length_map] at this; show _ ≤ _; omega)
  have HP := Lib.hid hp; have HSS := Lib.hid hs
  clear hgr hLE hmem5 hasc hrng hp hs HS hR5
  obtain ⟨Tall, hTall⟩ : ∃ T, T = walkT f (l'.map edE) 0 0 false := ⟨_, rfl⟩
  rw [← hTall] at HINC HTL
  have HTA := Lib.hid hTall
  clear hTall
  obtain ⟨n, hn⟩ : ∃ n, n = l'.length := ⟨_, rfl⟩
  rw [← hlen6, ← hn]
  have hnn : n ≤ 4001 := by omega
  have HN := Lib.hid hn
  clear hn hlen6
  go_wp2
  go_loopw [8, 10, 34] (fun o ins i wr => ∃ (k : Nat) (T : List Int) (d0 d1 : Int) (p : Bool), k ≤ n ∧ i = .int .i64 k ∧ ins = .bool p ∧ Hid (SwI w w6.heap.size g5 l' f Tall wr o k T d0 d1 p)) (fun _ _ i _ => n - (intOf i).toNat)
  case atStart =>
    refine ⟨0, [], 0, 0, false, Nat.zero_le _, rfl, rfl, Lib.hid ⟨Bs.nil _ _, heap_alloc_new w6 _, HLE.out.keep (bal (Below.refl _ _) _), bal B6.out _, ?_, rfl, ⟨by omega, by omega⟩, ⟨by omega, by omega⟩⟩⟩
    rw [HTA.out]
    rfl
  case round =>
    obtain ⟨k, T, d0, d1, p, hk, rfl, rfl, SI⟩ := hrel
    by_cases hlt : k < n
    · obtain ⟨e, he, hm⟩ : ∃ e, l'[k]? = some e ∧ e ∈ l' := ⟨l'[k]'(by rw [← HN.out]; exact hlt), List.getElem?_eq_getElem _, List.getElem_mem _⟩
      obtain ⟨c0, c1, c2, c3, c4, c5, c6⟩ := SI.out.le.seven he
      obtain ⟨hli, hmo⟩ := HM.out e hm
      obtain ⟨q0, q1⟩ := SI.out.dep.cells
      have hDlt := SI.out.dep.lt
      have hb0 := SI.out.b0; have hb1 := SI.out.b1
      have HZ := Lib.hid (ad_zero (e := e)); have HO := Lib.hid (ad_one (e := e))
      have HE := Lib.hid he
      obtain ⟨⟨z, hz⟩, li, mo⟩ := e
      simp only at c0 c1 c2 c3 c4 c5 c6 hli hmo
      clear he hm
      rcases hli with rfl | rfl
      · have hw : IntKind.i64.wrap (d0 + mo) = d0 + mo := IntWalk.i64_in _ (by omega)
        have fz := fun o => (SI.out.dep.alloc o).free
        have qz0 := fun o => alloc_cell9 q0 o
        have qz1 := fun o => alloc_cell9 q1 o
        go_wp2
        go_region
        go_upto_region 14 with (fail)
        go_name_world w7 hw7
        have R7 : Row7 w7 wr.heap.size (decide (z < 0)) (lb 0 z.natAbs) (lb 1 z.natAbs) (lb 2 z.natAbs) (lb 3 z.natAbs) 0 mo := by rw [← hw7]; exact Row7.new' _ (by simp) _ _ _ _ _ _ _
        have D7 : Row2i w7 w6.heap.size (d0 + mo) d1 := by rw [← hw7]; exact (Row2i.put0 SI.out.dep _).alloc _
        have B7 : Hid (Below (w6.heap.size + 1) w7 w7) := Lib.hid (Below.refl _ _)
        have S7 : Hid (SwI w w6.heap.size g5 l' f Tall wr u8 k T d0 d1 p ∧ Bs w7 (w6.heap.size + 1) u8 (outL T) ∧ LE w7 g5 l' ∧ Below w.heap.size w w7) := Lib.hid ⟨SI.out, by rw [← hw7]; exact own_keep9 (own_set9 SI.out.row (fun hc => by have := (own_base9 SI.out.row w6.heap.size hc).1; omega) _) (Below.drew (bal (Below.refl _ _) _)), by rw [← hw7]; exact (LE.keepB SI.out.le (Below.setCell (Below.refl g5.succ _) (p := ⟨w6.heap.size, 0, none⟩) (by show g5 + 1 ≤ w6.heap.size; omega) _) (Nat.lt_succ_self _)).keep (Below.drew (bal (Below.refl _ _) _)), by rw [← hw7]; exact Below.drew (Below.alloc (Below.setCell SI.out.bw (p := ⟨w6.heap.size, 0, none⟩) hsz6 _) (by simp; exact SI.out.bw.size) _)⟩
        have hsz7 : wr.heap.size + 1 = w7.heap.size := by rw [← hw7]; simp
        clear hw7 c0 c1 c2 c3 c4 c5 c6 q0 q1 qz0 qz1 fz hw
        obtain ⟨r0, r1, r2, r3, r4, r5, r6⟩ := R7.parts
        obtain ⟨s0, s1⟩ := D7.cells
        have hSn := S7.out
        by_cases hk1 : k + 1 < n
        · obtain ⟨e', he', _⟩ : ∃ e, l'[k + 1]? = some e ∧ e ∈ l' := ⟨l'[k + 1]'(by rw [← HN.out]; exact hk1), List.getElem?_eq_getElem _, List.getElem_mem _⟩
          obtain ⟨c0, c1, c2, c3, c4, c5, c6⟩ := S7.out.2.2.1.seven he'
          have hg : decide ((k : Int) + 1 < (n : Int)) = true := decide_eq_true (by omega)
          have HE' := Lib.hid he'
          have hez := eq5_z e'.1.property hz
          have xc0 := cell_regrown c0; have xr0 := cell_regrown r0
          have xc1 := cell_regrown c1; have xr1 := cell_regrown r1
          have xc2 := cell_regrown c2; have xr2 := cell_regrown r2
          have xc3 := cell_regrown c3; have xr3 := cell_regrown r3
          have xc4 := cell_regrown c4; have xr4 := cell_regrown r4
          have xc5 := cell_regrown c5; have xr5 := cell_regrown r5
          have xc6 := cell_regrown c6; have xr6 := cell_regrown r6
          clear c0 c1 c2 c3 c4 c5 c6 r0 r1 r2 r3 r4 r5 r6 hSn s0 s1 he'
          by_cases hs : e'.1.val = z
          · rw [decide_eq_true hs] at hez
            have HS0 := Lib.hid hs
            clear hs
            refine wp_region_quiet_below (by kernel_rfl) (by kernel_rfl) ?_
            repeat (go_big_quiet_step (fail))
            refine wpQuiet_nil ?_
            intro _ hw'
            obtain ⟨⟨dq, osq⟩, hw''⟩ := hw'
            subst hw''
            have hb := below_regrown w7 dq osq
            generalize grow (redrawn w7 dq) osq = w8 at *
            have hb8 := Lib.hid hb
            have D8 := Row2i.keep hb8.out D7.lt D7
            have R8 := Row7.keep hb8.out R7
            have S8 : Hid (Bs w8 (w6.heap.size + 1) u8 (outL T) ∧ LE w8 g5 l' ∧ Below w.heap.size w w8) := Lib.hid ⟨own_keep9 S7.out.2.1 hb, S7.out.2.2.1.keep hb, btr S7.out.2.2.2 hb⟩
            have hsz8 := hb.size
            clear hb S7
            clear xc0 xc1 xc2 xc3 xc4 xc5 xc6 xr0 xr1 xr2 xr3 xr4 xr5 xr6 hez
            go_wp2
            go_roundw
            case rel => exact ⟨k + 1, T, d0 + mo, d1, p, by omega, by go_num, rfl, Lib.hid ⟨S8.out.1, D8, S8.out.2.1, S8.out.2.2, by have := SI.out.tot; rw [walk_same f HE.out HE'.out HS0.out, (HZ.out d0 (by first | rfl | trivial)).1, (HZ.out d1 (by first | rfl | trivial)).2] at this; exact this, SI.out.par, by omega, by omega⟩⟩
            case measure => simp [intOf]; omega
          · rw [decide_eq_false hs] at hez
            have HS0 := Lib.hid hs
            clear hs
            refine wp_region_quiet_below (by kernel_rfl) (by kernel_rfl) ?_
            repeat (go_big_quiet_step (fail))
            refine wpQuiet_nil ?_
            intro _ hw'
            obtain ⟨⟨dq, osq⟩, hw''⟩ := hw'
            subst hw''
            have hb := below_regrown w7 dq osq
            generalize grow (redrawn w7 dq) osq = w8 at *
            have hb8 := Lib.hid hb
            have D8 := Row2i.keep hb8.out D7.lt D7
            have R8 := Row7.keep hb8.out R7
            have S8 : Hid (Bs w8 (w6.heap.size + 1) u8 (outL T) ∧ LE w8 g5 l' ∧ Below w.heap.size w w8) := Lib.hid ⟨own_keep9 S7.out.2.1 hb, S7.out.2.2.1.keep hb, btr S7.out.2.2.2 hb⟩
            have hsz8 := hb.size
            clear hb S7
            clear xc0 xc1 xc2 xc3 xc4 xc5 xc6 xr0 xr1 xr2 xr3 xr4 xr5 xr6 hez
            obtain ⟨s0, s1⟩ := D8.cells
            obtain ⟨r0, r1, r2, r3, r4, r5, r6⟩ := R8.parts
            obtain ⟨c, hc⟩ : ∃ c, f (decide (0 < d0 + mo)) (decide (0 < d1)) = c := ⟨_, rfl⟩
            have hcall := fun W => HF.out (decide (0 < d0 + mo)) (decide (0 < d1)) W
            rw [hc] at hcall
            have HWL : Hid (walkT f ((l'.drop k).map edE) d0 d1 p = if (c != p) = true then z :: walkT f ((l'.drop (k + 1)).map edE) (d0 + mo) (d1) (!p) else walkT f ((l'.drop (k + 1)).map edE) (d0 + mo) (d1) p) := Lib.hid (by have := walk_last f HE.out (fun e2 h2 => by rw [HE'.out] at h2; cases h2; exact HS0.out) d0 d1 p; obtain ⟨a0, a1⟩ : _ ∧ _ := ⟨(HZ.out d0 (by first | rfl | trivial)), (HZ.out d1 (by first | rfl | trivial))⟩; rw [a0.1, a1.2, hc] at this; exact this)
            have HC := Lib.hid hcall
            clear hcall hc
            by_cases hcp : c = p
            · subst hcp
              cases c
              all_goals
                go_wp2_with (go_at_fn gf; (with_reducible refine (HC.out _).mono ?_); rintro e w9 ⟨rfl, rfl⟩)
                go_roundw
                case rel => exact ⟨k + 1, T, d0 + mo, d1, _, by omega, by go_num, rfl, Lib.hid ⟨S8.out.1, D8, S8.out.2.1, S8.out.2.2, by have := SI.out.tot; rw [HWL.out] at this; simpa using this, SI.out.par, by omega, by omega⟩⟩
                case measure => simp [intOf]; omega
            · obtain rfl : c = !p := by revert hcp; cases c <;> cases p <;> simp
              have htot : T ++ z :: walkT f ((l'.drop (k + 1)).map edE) (d0 + mo) (d1) (!p) = Tall := by have := SI.out.tot; rw [HWL.out] at this; revert this; cases p <;> simp
              have hinc : Inc (-topM) (T ++ [z]) := inc_prefix (by rw [htot]; exact HINC.out)
              have hTl : (outL T).length ≤ 100000 := by have h1 := HTL.out; have h2 := prs_len T; rw [← htot, List.length_append] at h1; rw [outL_len]; omega
              have hq : (!p) = decide (T.length % 2 = 0) := by have := SI.out.par; rw [this]; rcases Nat.mod_two_eq_zero_or_one T.length with h | h <;> simp [h]
              have hle9 : w6.heap.size + 1 ≤ w8.heap.size := by omega
              have hturn : Calls Tryz.prog 62 #[u8, .agg #[.bool (decide (z < 0)), .int .u64 (lb 0 z.natAbs), .int .u64 (lb 1 z.natAbs), .int .u64 (lb 2 z.natAbs), .int .u64 (lb 3 z.natAbs)], .bool (!p)] w8 fun e w' => ∃ v', e = .returned v' ∧ Hid (Bs w' (w6.heap.size + 1) v' (outL (T ++ [z]))) ∧ Hid (Below (w6.heap.size + 1) w8 w') := (turn_any (w6.heap.size + 1) u8 T z w8 hinc S8.out.1 hle9 hTl (!p) hq).mono (fun e w' h => by obtain ⟨v', he, h1, h2⟩ := h; exact ⟨v', he, h1, h2.frame hle9 (fun g hg => (own_base9 S8.out.1 g hg).1)⟩)
              have HTU := Lib.hid hturn; have HTT := Lib.hid htot; have HPQ := Lib.hid SI.out.par
              have HG9 := Lib.hid (show g5 < w6.heap.size + 1 by omega)
              have HW9 := Lib.hid (show w.heap.size ≤ w6.heap.size + 1 by omega)
              have HK9 := Lib.hid (show k + 1 ≤ n by omega)
              have HB09 := Lib.hid (show -((k + 1 : Nat) : Int) ≤ d0 + mo ∧ d0 + mo ≤ ((k + 1 : Nat) : Int) by omega)
              have HB19 := Lib.hid (show -((k + 1 : Nat) : Int) ≤ d1 ∧ d1 ≤ ((k + 1 : Nat) : Int) by omega)
              have HPP9 : Hid ((!p) = decide ((T ++ [z]).length % 2 = 1)) := Lib.hid (par_next SI.out.par)
              clear hturn htot hinc hTl hq hcp hle9
              cases p
              all_goals
                simp only [Bool.not_false, Bool.not_true] at HTU
                go_wp2_with (first | (go_at_fn gf; (with_reducible refine (HC.out _).mono ?_); rintro e w9 ⟨rfl, rfl⟩) | (go_at_call 62; (with_reducible refine HTU.out.mono ?_); rintro e w9 ⟨v9, rfl, HO9, hF9⟩))
                go_roundw
                case rel => exact ⟨k + 1, T ++ [z], d0 + mo, d1, _, HK9.out, by go_num, rfl, Lib.hid ⟨HO9.out, D8.keep hF9.out (Nat.lt_succ_self _), S8.out.2.1.keepB hF9.out HG9.out, S8.out.2.2.trans (hF9.out.mono HW9.out), by rw [List.append_assoc]; exact HTT.out, HPP9.out, HB09.out, HB19.out⟩⟩
                case measure => simp [intOf]; omega
        · have hg : decide ((k : Int) + 1 < (n : Int)) = false := decide_eq_false (by omega)
          clear r0 r1 r2 r3 r4 r5 r6 hSn s0 s1
          refine wp_region_quiet_below (by kernel_rfl) (by kernel_rfl) ?_
          repeat (go_big_quiet_step (fail))
          refine wpQuiet_nil ?_
          intro _ hw'
          obtain ⟨⟨dq, osq⟩, hw''⟩ := hw'
          subst hw''
          have hb := below_regrown w7 dq osq
          generalize grow (redrawn w7 dq) osq = w8 at *
          have hb8 := Lib.hid hb
          have D8 := Row2i.keep hb8.out D7.lt D7
          have R8 := Row7.keep hb8.out R7
          have S8 : Hid (Bs w8 (w6.heap.size + 1) u8 (outL T) ∧ LE w8 g5 l' ∧ Below w.heap.size w w8) := Lib.hid ⟨own_keep9 S7.out.2.1 hb, S7.out.2.2.1.keep hb, btr S7.out.2.2.2 hb⟩
          have hsz8 := hb.size
          clear hb S7
          obtain ⟨s0, s1⟩ := D8.cells
          obtain ⟨r0, r1, r2, r3, r4, r5, r6⟩ := R8.parts
          obtain ⟨c, hc⟩ : ∃ c, f (decide (0 < d0 + mo)) (decide (0 < d1)) = c := ⟨_, rfl⟩
          have hcall := fun W => HF.out (decide (0 < d0 + mo)) (decide (0 < d1)) W
          rw [hc] at hcall
          have HWL : Hid (walkT f ((l'.drop k).map edE) d0 d1 p = if (c != p) = true then z :: walkT f ((l'.drop (k + 1)).map edE) (d0 + mo) (d1) (!p) else walkT f ((l'.drop (k + 1)).map edE) (d0 + mo) (d1) p) := Lib.hid (by have := walk_last f HE.out (fun e2 h2 => by have := (List.getElem?_eq_some_iff.1 h2).1; have := HN.out; omega) d0 d1 p; obtain ⟨a0, a1⟩ : _ ∧ _ := ⟨(HZ.out d0 (by first | rfl | trivial)), (HZ.out d1 (by first | rfl | trivial))⟩; rw [a0.1, a1.2, hc] at this; exact this)
          have HC := Lib.hid hcall
          clear hcall hc
          by_cases hcp : c = p
          · subst hcp
            cases c
            all_goals
              go_wp2_with (go_at_fn gf; (with_reducible refine (HC.out _).mono ?_); rintro e w9 ⟨rfl, rfl⟩)
              go_roundw
              case rel => exact ⟨k + 1, T, d0 + mo, d1, _, by omega, by go_num, rfl, Lib.hid ⟨S8.out.1, D8, S8.out.2.1, S8.out.2.2, by have := SI.out.tot; rw [HWL.out] at this; simpa using this, SI.out.par, by omega, by omega⟩⟩
              case measure => simp [intOf]; omega
          · obtain rfl : c = !p := by revert hcp; cases c <;> cases p <;> simp
            have htot : T ++ z :: walkT f ((l'.drop (k + 1)).map edE) (d0 + mo) (d1) (!p) = Tall := by have := SI.out.tot; rw [HWL.out] at this; revert this; cases p <;> simp
            have hinc : Inc (-topM) (T ++ [z]) := inc_prefix (by rw [htot]; exact HINC.out)
            have hTl : (outL T).length ≤ 100000 := by have h1 := HTL.out; have h2 := prs_len T; rw [← htot, List.length_append] at h1; rw [outL_len]; omega
            have hq : (!p) = decide (T.length % 2 = 0) := by have := SI.out.par; rw [this]; rcases Nat.mod_two_eq_zero_or_one T.length with h | h <;> simp [h]
            have hle9 : w6.heap.size + 1 ≤ w8.heap.size := by omega
            have hturn : Calls Tryz.prog 62 #[u8, .agg #[.bool (decide (z < 0)), .int .u64 (lb 0 z.natAbs), .int .u64 (lb 1 z.natAbs), .int .u64 (lb 2 z.natAbs), .int .u64 (lb 3 z.natAbs)], .bool (!p)] w8 fun e w' => ∃ v', e = .returned v' ∧ Hid (Bs w' (w6.heap.size + 1) v' (outL (T ++ [z]))) ∧ Hid (Below (w6.heap.size + 1) w8 w') := (turn_any (w6.heap.size + 1) u8 T z w8 hinc S8.out.1 hle9 hTl (!p) hq).mono (fun e w' h => by obtain ⟨v', he, h1, h2⟩ := h; exact ⟨v', he, h1, h2.frame hle9 (fun g hg => (own_base9 S8.out.1 g hg).1)⟩)
            have HTU := Lib.hid hturn; have HTT := Lib.hid htot; have HPQ := Lib.hid SI.out.par
            have HG9 := Lib.hid (show g5 < w6.heap.size + 1 by omega)
            have HW9 := Lib.hid (show w.heap.size ≤ w6.heap.size + 1 by omega)
            have HK9 := Lib.hid (show k + 1 ≤ n by omega)
            have HB09 := Lib.hid (show -((k + 1 : Nat) : Int) ≤ d0 + mo ∧ d0 + mo ≤ ((k + 1 : Nat) : Int) by omega)
            have HB19 := Lib.hid (show -((k + 1 : Nat) : Int) ≤ d1 ∧ d1 ≤ ((k + 1 : Nat) : Int) by omega)
            have HPP9 : Hid ((!p) = decide ((T ++ [z]).length % 2 = 1)) := Lib.hid (par_next SI.out.par)
            clear hturn htot hinc hTl hq hcp hle9
            cases p
            all_goals
              simp only [Bool.not_false, Bool.not_true] at HTU
              go_wp2_with (first | (go_at_fn gf; (with_reducible refine (HC.out _).mono ?_); rintro e w9 ⟨rfl, rfl⟩) | (go_at_call 62; (with_reducible refine HTU.out.mono ?_); rintro e w9 ⟨v9, rfl, HO9, hF9⟩))
              go_roundw
              case rel => exact ⟨k + 1, T ++ [z], d0 + mo, d1, _, HK9.out, by go_num, rfl, Lib.hid ⟨HO9.out, D8.keep hF9.out (Nat.lt_succ_self _), S8.out.2.1.keepB hF9.out HG9.out, S8.out.2.2.trans (hF9.out.mono HW9.out), by rw [List.append_assoc]; exact HTT.out, HPP9.out, HB09.out, HB19.out⟩⟩
              case measure => simp [intOf]; omega
      · have hw : IntKind.i64.wrap (d1 + mo) = d1 + mo := IntWalk.i64_in _ (by omega)
        have fz := fun o => (SI.out.dep.alloc o).free
        have qz0 := fun o => alloc_cell9 q0 o
        have qz1 := fun o => alloc_cell9 q1 o
        go_wp2
        go_region
        go_upto_region 14 with (fail)
        go_name_world w7 hw7
        have R7 : Row7 w7 wr.heap.size (decide (z < 0)) (lb 0 z.natAbs) (lb 1 z.natAbs) (lb 2 z.natAbs) (lb 3 z.natAbs) 1 mo := by rw [← hw7]; exact Row7.new' _ (by simp) _ _ _ _ _ _ _
        have D7 : Row2i w7 w6.heap.size d0 (d1 + mo) := by rw [← hw7]; exact (Row2i.put1 SI.out.dep _).alloc _
        have B7 : Hid (Below (w6.heap.size + 1) w7 w7) := Lib.hid (Below.refl _ _)
        have S7 : Hid (SwI w w6.heap.size g5 l' f Tall wr u8 k T d0 d1 p ∧ Bs w7 (w6.heap.size + 1) u8 (outL T) ∧ LE w7 g5 l' ∧ Below w.heap.size w w7) := Lib.hid ⟨SI.out, by rw [← hw7]; exact own_keep9 (own_set9 SI.out.row (fun hc => by have := (own_base9 SI.out.row w6.heap.size hc).1; omega) _) (Below.drew (bal (Below.refl _ _) _)), by rw [← hw7]; exact (LE.keepB SI.out.le (Below.setCell (Below.refl g5.succ _) (p := ⟨w6.heap.size, 1, none⟩) (by show g5 + 1 ≤ w6.heap.size; omega) _) (Nat.lt_succ_self _)).keep (Below.drew (bal (Below.refl _ _) _)), by rw [← hw7]; exact Below.drew (Below.alloc (Below.setCell SI.out.bw (p := ⟨w6.heap.size, 1, none⟩) hsz6 _) (by simp; exact SI.out.bw.size) _)⟩
        have hsz7 : wr.heap.size + 1 = w7.heap.size := by rw [← hw7]; simp
        clear hw7 c0 c1 c2 c3 c4 c5 c6 q0 q1 qz0 qz1 fz hw
        obtain ⟨r0, r1, r2, r3, r4, r5, r6⟩ := R7.parts
        obtain ⟨s0, s1⟩ := D7.cells
        have hSn := S7.out
        by_cases hk1 : k + 1 < n
        · obtain ⟨e', he', _⟩ : ∃ e, l'[k + 1]? = some e ∧ e ∈ l' := ⟨l'[k + 1]'(by rw [← HN.out]; exact hk1), List.getElem?_eq_getElem _, List.getElem_mem _⟩
          obtain ⟨c0, c1, c2, c3, c4, c5, c6⟩ := S7.out.2.2.1.seven he'
          have hg : decide ((k : Int) + 1 < (n : Int)) = true := decide_eq_true (by omega)
          have HE' := Lib.hid he'
          have hez := eq5_z e'.1.property hz
          have xc0 := cell_regrown c0; have xr0 := cell_regrown r0
          have xc1 := cell_regrown c1; have xr1 := cell_regrown r1
          have xc2 := cell_regrown c2; have xr2 := cell_regrown r2
          have xc3 := cell_regrown c3; have xr3 := cell_regrown r3
          have xc4 := cell_regrown c4; have xr4 := cell_regrown r4
          have xc5 := cell_regrown c5; have xr5 := cell_regrown r5
          have xc6 := cell_regrown c6; have xr6 := cell_regrown r6
          clear c0 c1 c2 c3 c4 c5 c6 r0 r1 r2 r3 r4 r5 r6 hSn s0 s1 he'
          by_cases hs : e'.1.val = z
          · rw [decide_eq_true hs] at hez
            have HS0 := Lib.hid hs
            clear hs
            refine wp_region_quiet_below (by kernel_rfl) (by kernel_rfl) ?_
            repeat (go_big_quiet_step (fail))
            refine wpQuiet_nil ?_
            intro _ hw'
            obtain ⟨⟨dq, osq⟩, hw''⟩ := hw'
            subst hw''
            have hb := below_regrown w7 dq osq
            generalize grow (redrawn w7 dq) osq = w8 at *
            have hb8 := Lib.hid hb
            have D8 := Row2i.keep hb8.out D7.lt D7
            have R8 := Row7.keep hb8.out R7
            have S8 : Hid (Bs w8 (w6.heap.size + 1) u8 (outL T) ∧ LE w8 g5 l' ∧ Below w.heap.size w w8) := Lib.hid ⟨own_keep9 S7.out.2.1 hb, S7.out.2.2.1.keep hb, btr S7.out.2.2.2 hb⟩
            have hsz8 := hb.size
            clear hb S7
            clear xc0 xc1 xc2 xc3 xc4 xc5 xc6 xr0 xr1 xr2 xr3 xr4 xr5 xr6 hez
            go_wp2
            go_roundw
            case rel => exact ⟨k + 1, T, d0, d1 + mo, p, by omega, by go_num, rfl, Lib.hid ⟨S8.out.1, D8, S8.out.2.1, S8.out.2.2, by have := SI.out.tot; rw [walk_same f HE.out HE'.out HS0.out, (HO.out d0 (by first | rfl | trivial)).1, (HO.out d1 (by first | rfl | trivial)).2] at this; exact this, SI.out.par, by omega, by omega⟩⟩
            case measure => simp [intOf]; omega
          · rw [decide_eq_false hs] at hez
            have HS0 := Lib.hid hs
            clear hs
            refine wp_region_quiet_below (by kernel_rfl) (by kernel_rfl) ?_
            repeat (go_big_quiet_step (fail))
            refine wpQuiet_nil ?_
            intro _ hw'
            obtain ⟨⟨dq, osq⟩, hw''⟩ := hw'
            subst hw''
            have hb := below_regrown w7 dq osq
            generalize grow (redrawn w7 dq) osq = w8 at *
            have hb8 := Lib.hid hb
            have D8 := Row2i.keep hb8.out D7.lt D7
            have R8 := Row7.keep hb8.out R7
            have S8 : Hid (Bs w8 (w6.heap.size + 1) u8 (outL T) ∧ LE w8 g5 l' ∧ Below w.heap.size w w8) := Lib.hid ⟨own_keep9 S7.out.2.1 hb, S7.out.2.2.1.keep hb, btr S7.out.2.2.2 hb⟩
            have hsz8 := hb.size
            clear hb S7
            clear xc0 xc1 xc2 xc3 xc4 xc5 xc6 xr0 xr1 xr2 xr3 xr4 xr5 xr6 hez
            obtain ⟨s0, s1⟩ := D8.cells
            obtain ⟨r0, r1, r2, r3, r4, r5, r6⟩ := R8.parts
            obtain ⟨c, hc⟩ : ∃ c, f (decide (0 < d0)) (decide (0 < d1 + mo)) = c := ⟨_, rfl⟩
            have hcall := fun W => HF.out (decide (0 < d0)) (decide (0 < d1 + mo)) W
            rw [hc] at hcall
            have HWL : Hid (walkT f ((l'.drop k).map edE) d0 d1 p = if (c != p) = true then z :: walkT f ((l'.drop (k + 1)).map edE) (d0) (d1 + mo) (!p) else walkT f ((l'.drop (k + 1)).map edE) (d0) (d1 + mo) p) := Lib.hid (by have := walk_last f HE.out (fun e2 h2 => by rw [HE'.out] at h2; cases h2; exact HS0.out) d0 d1 p; obtain ⟨a0, a1⟩ : _ ∧ _ := ⟨(HO.out d0 (by first | rfl | trivial)), (HO.out d1 (by first | rfl | trivial))⟩; rw [a0.1, a1.2, hc] at this; exact this)
            have HC := Lib.hid hcall
            clear hcall hc
            by_cases hcp : c = p
            · subst hcp
              cases c
              all_goals
                go_wp2_with (go_at_fn gf; (with_reducible refine (HC.out _).mono ?_); rintro e w9 ⟨rfl, rfl⟩)
                go_roundw
                case rel => exact ⟨k + 1, T, d0, d1 + mo, _, by omega, by go_num, rfl, Lib.hid ⟨S8.out.1, D8, S8.out.2.1, S8.out.2.2, by have := SI.out.tot; rw [HWL.out] at this; simpa using this, SI.out.par, by omega, by omega⟩⟩
                case measure => simp [intOf]; omega
            · obtain rfl : c = !p := by revert hcp; cases c <;> cases p <;> simp
              have htot : T ++ z :: walkT f ((l'.drop (k + 1)).map edE) (d0) (d1 + mo) (!p) = Tall := by have := SI.out.tot; rw [HWL.out] at this; revert this; cases p <;> simp
              have hinc : Inc (-topM) (T ++ [z]) := inc_prefix (by rw [htot]; exact HINC.out)
              have hTl : (outL T).length ≤ 100000 := by have h1 := HTL.out; have h2 := prs_len T; rw [← htot, List.length_append] at h1; rw [outL_len]; omega
              have hq : (!p) = decide (T.length % 2 = 0) := by have := SI.out.par; rw [this]; rcases Nat.mod_two_eq_zero_or_one T.length with h | h <;> simp [h]
              have hle9 : w6.heap.size + 1 ≤ w8.heap.size := by omega
              have hturn : Calls Tryz.prog 62 #[u8, .agg #[.bool (decide (z < 0)), .int .u64 (lb 0 z.natAbs), .int .u64 (lb 1 z.natAbs), .int .u64 (lb 2 z.natAbs), .int .u64 (lb 3 z.natAbs)], .bool (!p)] w8 fun e w' => ∃ v', e = .returned v' ∧ Hid (Bs w' (w6.heap.size + 1) v' (outL (T ++ [z]))) ∧ Hid (Below (w6.heap.size + 1) w8 w') := (turn_any (w6.heap.size + 1) u8 T z w8 hinc S8.out.1 hle9 hTl (!p) hq).mono (fun e w' h => by obtain ⟨v', he, h1, h2⟩ := h; exact ⟨v', he, h1, h2.frame hle9 (fun g hg => (own_base9 S8.out.1 g hg).1)⟩)
              have HTU := Lib.hid hturn; have HTT := Lib.hid htot; have HPQ := Lib.hid SI.out.par
              have HG9 := Lib.hid (show g5 < w6.heap.size + 1 by omega)
              have HW9 := Lib.hid (show w.heap.size ≤ w6.heap.size + 1 by omega)
              have HK9 := Lib.hid (show k + 1 ≤ n by omega)
              have HB09 := Lib.hid (show -((k + 1 : Nat) : Int) ≤ d0 ∧ d0 ≤ ((k + 1 : Nat) : Int) by omega)
              have HB19 := Lib.hid (show -((k + 1 : Nat) : Int) ≤ d1 + mo ∧ d1 + mo ≤ ((k + 1 : Nat) : Int) by omega)
              have HPP9 : Hid ((!p) = decide ((T ++ [z]).length % 2 = 1)) := Lib.hid (par_next SI.out.par)
              clear hturn htot hinc hTl hq hcp hle9
              cases p
              all_goals
                simp only [Bool.not_false, Bool.not_true] at HTU
                go_wp2_with (first | (go_at_fn gf; (with_reducible refine (HC.out _).mono ?_); rintro e w9 ⟨rfl, rfl⟩) | (go_at_call 62; (with_reducible refine HTU.out.mono ?_); rintro e w9 ⟨v9, rfl, HO9, hF9⟩))
                go_roundw
                case rel => exact ⟨k + 1, T ++ [z], d0, d1 + mo, _, HK9.out, by go_num, rfl, Lib.hid ⟨HO9.out, D8.keep hF9.out (Nat.lt_succ_self _), S8.out.2.1.keepB hF9.out HG9.out, S8.out.2.2.trans (hF9.out.mono HW9.out), by rw [List.append_assoc]; exact HTT.out, HPP9.out, HB09.out, HB19.out⟩⟩
                case measure => simp [intOf]; omega
        · have hg : decide ((k : Int) + 1 < (n : Int)) = false := decide_eq_false (by omega)
          clear r0 r1 r2 r3 r4 r5 r6 hSn s0 s1
          refine wp_region_quiet_below (by kernel_rfl) (by kernel_rfl) ?_
          repeat (go_big_quiet_step (fail))
          refine wpQuiet_nil ?_
          intro _ hw'
          obtain ⟨⟨dq, osq⟩, hw''⟩ := hw'
          subst hw''
          have hb := below_regrown w7 dq osq
          generalize grow (redrawn w7 dq) osq = w8 at *
          have hb8 := Lib.hid hb
          have D8 := Row2i.keep hb8.out D7.lt D7
          have R8 := Row7.keep hb8.out R7
          have S8 : Hid (Bs w8 (w6.heap.size + 1) u8 (outL T) ∧ LE w8 g5 l' ∧ Below w.heap.size w w8) := Lib.hid ⟨own_keep9 S7.out.2.1 hb, S7.out.2.2.1.keep hb, btr S7.out.2.2.2 hb⟩
          have hsz8 := hb.size
          clear hb S7
          obtain ⟨s0, s1⟩ := D8.cells
          obtain ⟨r0, r1, r2, r3, r4, r5, r6⟩ := R8.parts
          obtain ⟨c, hc⟩ : ∃ c, f (decide (0 < d0)) (decide (0 < d1 + mo)) = c := ⟨_, rfl⟩
          have hcall := fun W => HF.out (decide (0 < d0)) (decide (0 < d1 + mo)) W
          rw [hc] at hcall
          have HWL : Hid (walkT f ((l'.drop k).map edE) d0 d1 p = if (c != p) = true then z :: walkT f ((l'.drop (k + 1)).map edE) (d0) (d1 + mo) (!p) else walkT f ((l'.drop (k + 1)).map edE) (d0) (d1 + mo) p) := Lib.hid (by have := walk_last f HE.out (fun e2 h2 => by have := (List.getElem?_eq_some_iff.1 h2).1; have := HN.out; omega) d0 d1 p; obtain ⟨a0, a1⟩ : _ ∧ _ := ⟨(HO.out d0 (by first | rfl | trivial)), (HO.out d1 (by first | rfl | trivial))⟩; rw [a0.1, a1.2, hc] at this; exact this)
          have HC := Lib.hid hcall
          clear hcall hc
          by_cases hcp : c = p
          · subst hcp
            cases c
            all_goals
              go_wp2_with (go_at_fn gf; (with_reducible refine (HC.out _).mono ?_); rintro e w9 ⟨rfl, rfl⟩)
              go_roundw
              case rel => exact ⟨k + 1, T, d0, d1 + mo, _, by omega, by go_num, rfl, Lib.hid ⟨S8.out.1, D8, S8.out.2.1, S8.out.2.2, by have := SI.out.tot; rw [HWL.out] at this; simpa using this, SI.out.par, by omega, by omega⟩⟩
              case measure => simp [intOf]; omega
          · obtain rfl : c = !p := by revert hcp; cases c <;> cases p <;> simp
            have htot : T ++ z :: walkT f ((l'.drop (k + 1)).map edE) (d0) (d1 + mo) (!p) = Tall := by have := SI.out.tot; rw [HWL.out] at this; revert this; cases p <;> simp
            have hinc : Inc (-topM) (T ++ [z]) := inc_prefix (by rw [htot]; exact HINC.out)
            have hTl : (outL T).length ≤ 100000 := by have h1 := HTL.out; have h2 := prs_len T; rw [← htot, List.length_append] at h1; rw [outL_len]; omega
            have hq : (!p) = decide (T.length % 2 = 0) := by have := SI.out.par; rw [this]; rcases Nat.mod_two_eq_zero_or_one T.length with h | h <;> simp [h]
            have hle9 : w6.heap.size + 1 ≤ w8.heap.size := by omega
            have hturn : Calls Tryz.prog 62 #[u8, .agg #[.bool (decide (z < 0)), .int .u64 (lb 0 z.natAbs), .int .u64 (lb 1 z.natAbs), .int .u64 (lb 2 z.natAbs), .int .u64 (lb 3 z.natAbs)], .bool (!p)] w8 fun e w' => ∃ v', e = .returned v' ∧ Hid (Bs w' (w6.heap.size + 1) v' (outL (T ++ [z]))) ∧ Hid (Below (w6.heap.size + 1) w8 w') := (turn_any (w6.heap.size + 1) u8 T z w8 hinc S8.out.1 hle9 hTl (!p) hq).mono (fun e w' h => by obtain ⟨v', he, h1, h2⟩ := h; exact ⟨v', he, h1, h2.frame hle9 (fun g hg => (own_base9 S8.out.1 g hg).1)⟩)
            have HTU := Lib.hid hturn; have HTT := Lib.hid htot; have HPQ := Lib.hid SI.out.par
            have HG9 := Lib.hid (show g5 < w6.heap.size + 1 by omega)
            have HW9 := Lib.hid (show w.heap.size ≤ w6.heap.size + 1 by omega)
            have HK9 := Lib.hid (show k + 1 ≤ n by omega)
            have HB09 := Lib.hid (show -((k + 1 : Nat) : Int) ≤ d0 ∧ d0 ≤ ((k + 1 : Nat) : Int) by omega)
            have HB19 := Lib.hid (show -((k + 1 : Nat) : Int) ≤ d1 + mo ∧ d1 + mo ≤ ((k + 1 : Nat) : Int) by omega)
            have HPP9 : Hid ((!p) = decide ((T ++ [z]).length % 2 = 1)) := Lib.hid (par_next SI.out.par)
            clear hturn htot hinc hTl hq hcp hle9
            cases p
            all_goals
              simp only [Bool.not_false, Bool.not_true] at HTU
              go_wp2_with (first | (go_at_fn gf; (with_reducible refine (HC.out _).mono ?_); rintro e w9 ⟨rfl, rfl⟩) | (go_at_call 62; (with_reducible refine HTU.out.mono ?_); rintro e w9 ⟨v9, rfl, HO9, hF9⟩))
              go_roundw
              case rel => exact ⟨k + 1, T ++ [z], d0, d1 + mo, _, HK9.out, by go_num, rfl, Lib.hid ⟨HO9.out, D8.keep hF9.out (Nat.lt_succ_self _), S8.out.2.1.keepB hF9.out HG9.out, S8.out.2.2.trans (hF9.out.mono HW9.out), by rw [List.append_assoc]; exact HTT.out, HPP9.out, HB09.out, HB19.out⟩⟩
              case measure => simp [intOf]; omega
    · have hge : ¬ (k : Int) < (n : Int) := by omega
      have HT : Hid (T = Tall) := Lib.hid (by have := SI.out.tot; rw [List.drop_eq_nil_of_le (by have := HN.out; omega)] at this; simpa [walkT] using this)
      go_wp2
      go_ret
      refine ⟨_, rfl, T, own_mono9 SI.out.row (by omega), ⟨l', by rw [HL5.out]; exact HP.out, HSS.out, by rw [HT.out, HTA.out]⟩, SI.out.bw⟩
end Go.Proofs.YtjlgiejggcbgbaaGreatDoor
