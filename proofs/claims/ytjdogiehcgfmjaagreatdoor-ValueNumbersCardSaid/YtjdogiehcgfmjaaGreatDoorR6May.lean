/-
  entrepotref6.own, Right, long, May: the contracts.
-/
import Derived.Test.YtjdogiehcgfmjaaGreatDoorR6Map
import Derived.Test.YtjdogiehcgfmjaaGreatDoorValFew
namespace Go.Proofs.YtjdogiehcgfmjaaGreatDoor
open Go.RowKit Go.Shelf

theorem txt_empty (s : ByteArray) : (s.toList == (⟨#[]⟩ : ByteArray).toList) = s.toList.isEmpty := by
  rw [show (⟨#[]⟩ : ByteArray).toList = [] from (Lib.toList_data _).trans rfl]
  cases s.toList <;> rfl
theorem beq_self_int (x : Int) : (x == x) = true := beq_self_eq_true x
theorem le_one (b : Int) : decide (b ≤ 1) = !decide (1 < b) := by rw [Bool.eq_iff_iff]; simp
theorem len_beq (m n : Nat) : ((m : Int) == (n : Int)) = decide (m = n) := by rw [Bool.eq_iff_iff]; simp; omega
/-- own, of every value. -/
theorem rown_any (T : VT) (w : World) (hQ : Qv T w) : Calls Tryz.prog 98 #[T.val] w fun e w' => e = .returned (.bool (ownB T.o T.kids.length)) ∧ Below w.heap.size w w' := by
  obtain ⟨o, kids⟩ := T
  obtain ⟨kb, koff, hK⟩ := hQ.ins.keys'
  obtain ⟨hs, hks⟩ := hQ.small.own
  have hw := hQ.ins.wf
  obtain ⟨_, _, ⟨hb0, hb1⟩, _, _⟩ := hw
  rw [val_eq]
  obtain ⟨kd, g, x, b, s, la, lc, ka, kc, ks⟩ := o
  simp only [VT.o_mk, VT.kids_mk] at hs hks hK hb0 hb1 ⊢
  generalize hn : kids.length = n
  clear hn
  have fin : ∀ {q r : Bool} {P : Prop} {e : Ending}, e = .returned (.bool q) ∧ P → q = r → e = .returned (.bool r) ∧ P := fun h1 h2 => ⟨h1.1.trans (ret_bool h2), h1.2⟩
  by_cases h1 : kd = 1
  · subst h1
    refine (rown_k1 _ _ _ _ _ _ s _ n _ _ _ _ w).mono fun e w' h => fin h ?_
    show _ = (eqO 1 g _ _ _ _ b s _ _ 1 false 0 0 0 0 0 ⟨#[]⟩ ((0 : Nat) : Int) ((0 : Nat) : Int) && true)
    unfold eqO
    rw [txt_empty, beq_self_int]
    cases eq5 g (lb 0 x) (lb 1 x) (lb 2 x) (lb 3 x) false 0 0 0 0 <;> cases (b == 0) <;> cases s.toList.isEmpty <;> cases ((n : Int) == 0) <;> simp
  by_cases h2 : kd = 2
  · subst h2
    refine (rown_k2 _ _ _ _ _ _ s _ n _ _ _ _ hb0 hb1 w).mono fun e w' h => fin h ?_
    show _ = (eqO 2 g _ _ _ _ b s _ _ 2 false 0 0 0 0 b ⟨#[]⟩ ((0 : Nat) : Int) ((0 : Nat) : Int) && !decide (1 < b))
    unfold eqO
    rw [txt_empty, beq_self_int, beq_self_int, le_one]
    cases eq5 g (lb 0 x) (lb 1 x) (lb 2 x) (lb 3 x) false 0 0 0 0 <;> cases (decide (1 < b)) <;> cases s.toList.isEmpty <;> cases ((n : Int) == 0) <;> simp
  by_cases h3 : kd = 3
  · subst h3
    refine (rown_k3 _ _ _ _ _ b s _ n _ _ _ _ w _ (fun W _ => r6may g x W)).mono fun e w' h => fin h ?_
    show _ = (eqO 3 g _ _ _ _ b s _ _ 3 g (lb 0 x) (lb 1 x) (lb 2 x) (lb 3 x) 0 ⟨#[]⟩ ((0 : Nat) : Int) ((0 : Nat) : Int) && okI g x)
    unfold eqO
    rw [txt_empty, beq_self_int, show eq5 g (lb 0 x) (lb 1 x) (lb 2 x) (lb 3 x) g (lb 0 x) (lb 1 x) (lb 2 x) (lb 3 x) = true by simp [eq5, eq4]]
    cases okI g x <;> cases (b == 0) <;> cases s.toList.isEmpty <;> cases ((n : Int) == 0) <;> simp
  by_cases h4 : kd = 4
  · subst h4
    have e4 : b = ((b.toNat : Nat) : Int) := by omega
    refine (rown_k4 _ _ _ _ _ b s _ n _ _ _ _ w (mayF b.toNat) (fun W _ => by
      have := rmayf b.toNat (by omega) W
      rw [← e4] at this
      exact this)).mono fun e w' h => fin h ?_
    show _ = (eqO 4 g _ _ _ _ b s _ _ 4 false 0 0 0 0 b ⟨#[]⟩ ((0 : Nat) : Int) ((0 : Nat) : Int) && mayF b.toNat)
    unfold eqO
    rw [txt_empty, beq_self_int, beq_self_int]
    cases eq5 g (lb 0 x) (lb 1 x) (lb 2 x) (lb 3 x) false 0 0 0 0 <;> cases mayF b.toNat <;> cases s.toList.isEmpty <;> cases ((n : Int) == 0) <;> simp
  by_cases h5 : kd = 5
  · subst h5
    refine (rown_k5 _ _ _ _ _ b s _ n _ _ _ _ w _ (fun W _ => rvalid_below s (by omega) _ rfl W)).mono fun e w' h => fin h ?_
    show _ = (eqO 5 g _ _ _ _ b s _ _ 5 false 0 0 0 0 0 s ((0 : Nat) : Int) ((0 : Nat) : Int) && uval s.data.toList)
    unfold eqO
    rw [beq_self_int, show (s.toList == s.toList) = true from beq_self_eq_true _]
    cases eq5 g (lb 0 x) (lb 1 x) (lb 2 x) (lb 3 x) false 0 0 0 0 <;> cases (b == 0) <;> cases uval s.data.toList <;> cases ((n : Int) == 0) <;> simp
  by_cases h6 : kd = 6
  · subst h6
    refine (rown_k6 _ _ _ _ _ b s _ n _ _ _ _ w).mono fun e w' h => fin h ?_
    show _ = (eqO 6 g _ _ _ _ b s _ _ 6 false 0 0 0 0 0 s ((0 : Nat) : Int) ((0 : Nat) : Int) && true)
    unfold eqO
    rw [beq_self_int, show (s.toList == s.toList) = true from beq_self_eq_true _]
    cases eq5 g (lb 0 x) (lb 1 x) (lb 2 x) (lb 3 x) false 0 0 0 0 <;> cases (b == 0) <;> cases ((n : Int) == 0) <;> simp
  by_cases h7 : kd = 7
  · subst h7
    refine (rown_k7 _ _ _ _ _ b s _ n _ _ _ _ w).mono fun e w' h => fin h ?_
    show _ = (eqO 7 g _ _ _ _ b s _ _ 7 false 0 0 0 0 0 ⟨#[]⟩ ((0 : Nat) : Int) (n : Int) && true)
    unfold eqO
    rw [beq_self_int, beq_self_int, txt_empty]
    cases eq5 g (lb 0 x) (lb 1 x) (lb 2 x) (lb 3 x) false 0 0 0 0 <;> cases (b == 0) <;> cases s.toList.isEmpty <;> simp
  by_cases h8 : kd = 8
  · subst h8
    refine (rown_k8 _ _ _ _ _ b s _ n _ _ _ ks kb koff w hK (fun t ht => by have := hks t ht; omega)).mono fun e w' h => fin h ?_
    show _ = (eqO 8 g _ _ _ _ b s _ _ 8 false 0 0 0 0 0 ⟨#[]⟩ (ks.length : Int) (n : Int) && (decide (ks.length = n) && namesB ks))
    unfold eqO
    rw [beq_self_int, beq_self_int, beq_self_int, txt_empty, len_beq]
    cases eq5 g (lb 0 x) (lb 1 x) (lb 2 x) (lb 3 x) false 0 0 0 0 <;> cases (b == 0) <;> cases s.toList.isEmpty <;> cases namesB ks <;> simp
  have hR : ownB ⟨kd, g, x, b, s, la, lc, ka, kc, ks⟩ n = false := by
    unfold ownB restB
    simp only
    rw [if_neg (by omega), if_neg h2, if_neg h3, if_neg h4, if_neg h5, if_neg h8, Bool.and_false]
  rw [hR]
  exact rown_none _ _ _ _ _ _ _ _ _ _ _ _ _ kd (beq_eq_false_iff_ne.2 h1) (beq_eq_false_iff_ne.2 h2) (beq_eq_false_iff_ne.2 h3) (beq_eq_false_iff_ne.2 h4) (beq_eq_false_iff_ne.2 h5) (beq_eq_false_iff_ne.2 h6) (beq_eq_false_iff_ne.2 h7) (beq_eq_false_iff_ne.2 h8) w

/-- A predicate of no kid. -/
theorem hasT_no (p : VT → Bool) {o : Own} {kids : List VT} (h0 : p (.mk o kids) = false) (h : kids.any (hasT p) = false) : hasT p (.mk o kids) = false := by rw [hasT_mk, h0, VT.kids_mk, h]; rfl
theorem hasT_kid (p : VT → Bool) {o : Own} {kids : List VT} {t : VT} (ht : t ∈ kids) (h : hasT p t = true) : hasT p (.mk o kids) = true := by
  rw [hasT_mk, VT.kids_mk, List.any_eq_true.2 ⟨t, ht, h⟩, Bool.or_true]
set_option maxHeartbeats 1000000 in
theorem right_bad (kd : Int) (g : Bool) (x0 x1 x2 x3 b : Int) (s : ByteArray) (la : Option Addr) (n lc : Nat) (ka : Option Addr) (m kc : Nat) (w : World)
    (k1 : ∀ W, Below w.heap.size w W → Calls Tryz.prog 98 #[V10 kd g x0 x1 x2 x3 b s la n lc ka m kc] W fun e w' => e = .returned (.bool false) ∧ Below W.heap.size W w') :
    Calls Tryz.prog 49 #[V10 kd g x0 x1 x2 x3 b s la n lc ka m kc] w fun e w' => e = .returned (.bool false) ∧ Below w.heap.size w w' := by
  have K1 := Lib.hid k1; clear k1
  go_enter Tryz.func49, Tryz.ntmps49
  go_wp2_with (go_at_call 98; ((with_reducible refine (K1.out _ (bal (Below.refl _ _) _)).mono ?_); rintro e w1 ⟨rfl, hb1⟩))
  go_ret
  exact ⟨rfl, btr (bal (Below.refl _ _) _) hb1⟩
set_option maxHeartbeats 1000000 in
theorem right_core (kd : Int) (g : Bool) (x0 x1 x2 x3 b : Int) (s : ByteArray) (la : Option Addr) (lc : Nat) (ka : Option Addr) (m kc : Nat) (kids : List VT) (bb off : Nat) (R : Bool) (w : World) (hK : Kids w la kids bb off)
    (hq : ∀ t ∈ kids, Qv t w) (hyes : ∀ t ∈ kids, hasT wrongT t = true → R = false) (hno : kids.any (hasT wrongT) = false → R = true)
    (k1 : ∀ W, Below w.heap.size w W → Calls Tryz.prog 98 #[V10 kd g x0 x1 x2 x3 b s la kids.length lc ka m kc] W fun e w' => e = .returned (.bool true) ∧ Below W.heap.size W w')
    (ih : ∀ t ∈ kids, ∀ W, Qv t W → Calls Tryz.prog 49 #[t.val] W fun e w' => e = .returned (.bool (!hasT wrongT t)) ∧ Below W.heap.size W w') :
    Calls Tryz.prog 49 #[V10 kd g x0 x1 x2 x3 b s la kids.length lc ka m kc] w fun e w' => e = .returned (.bool R) ∧ Below w.heap.size w w' := by
  have hn := hK.len
  have HK := Lib.hid hK; have HI := Lib.hid ih; have HQ := Lib.hid hq; have HY := Lib.hid hyes; have HN := Lib.hid hno; have K1 := Lib.hid k1
  clear hK ih hq hyes hno k1
  go_enter Tryz.func49, Tryz.ntmps49
  go_wp2_with fail
  ((with_reducible refine (K1.out _ (bal (Below.refl _ _) _)).mono ?_); rintro e w1 ⟨rfl, hb1⟩)
  have X1 := Lib.hid (And.intro (btr (bal (Below.refl w.heap.size w) _) hb1) (Row10.keep hb1 (Row10.new w (.int .i64 kd) (.bool g) (.int .u64 x0) (.int .u64 x1) (.int .u64 x2) (.int .u64 x3) (.int .u64 b) (.string s) (.slice la kids.length lc) (.slice ka m kc))))
  clear hb1
  go_wp2
  go_loopw [3] (fun i wr => ∃ k : Nat, k ≤ kids.length ∧ i = .int .i64 k ∧ Hid (Below w.heap.size w wr ∧ Row10 wr w.heap.size (.int .i64 kd) (.bool g) (.int .u64 x0) (.int .u64 x1) (.int .u64 x2) (.int .u64 x3) (.int .u64 b) (.string s) (.slice la kids.length lc) (.slice ka m kc)) ∧ Hid ((kids.take k).any (hasT wrongT) = false)) (fun i _ => kids.length - (intOf i).toNat)
  case atStart => exact ⟨0, Nat.zero_le _, rfl, X1.out, (show Hid _ from by show _ = _; simp)⟩
  case round =>
    obtain ⟨k, hk, rfl, BW, AN⟩ := hrel
    obtain ⟨p0, p1, p2, p3, p4, p5, p6, p7, p8, p9⟩ := BW.out.2.parts
    clear p0 p1 p2 p3 p4 p5 p6 p7 p9 X1
    by_cases hlt : k < kids.length
    · obtain ⟨t, ht, hm⟩ := kid_at hlt
      have hnx := any_take_next (p := hasT wrongT) ht
      have hyy := HY.out t hm
      have hr := (HK.out.cells k t ht).keep BW.out.1
      obtain rfl : la = some ⟨bb, off, none⟩ := HK.out.la (by omega)
      have hti := (HQ.out t hm).keep BW.out.1
      have hcall := HI.out t hm
      obtain ⟨o2, l2⟩ := t
      obtain ⟨kd2, g2, x2', b2, s2, la2, lc2, ka2, kc2, ks2⟩ := o2
      simp only [VT.val, VT.cells, VT.o_mk, VT.kids_mk] at hcall
      obtain ⟨c0, c1, c2, c3, c4, c5, c6, c7, c8, c9⟩ := hr.ten
      clear hr
      generalize hTT : VT.mk ⟨kd2, g2, x2', b2, s2, la2, lc2, ka2, kc2, ks2⟩ l2 = T at *
      have HTI := Lib.hid hti; have HCALL := Lib.hid hcall; have HNX := Lib.hid hnx; have HYY := Lib.hid hyy
      clear hti hcall hnx hyy ht hTT
      cases hh : hasT wrongT T with
      | true =>
        rw [hh] at HCALL
        have HR := Lib.hid (HYY.out hh)
        clear hh
        go_wp2_with (go_at_call 49; ((with_reducible refine (HCALL.out _ HTI.out).mono ?_); rintro e w2 ⟨rfl, hb2⟩))
        go_ret
        exact ⟨ret_bool HR.out.symm, btr BW.out.1 hb2⟩
      | false =>
        rw [hh] at HCALL
        have HHH := Lib.hid hh
        clear hh
        go_wp2_with (go_at_call 49; ((with_reducible refine (HCALL.out _ HTI.out).mono ?_); rintro e w2 ⟨rfl, hb2⟩))
        go_roundw
        case rel => exact ⟨k + 1, by omega, by go_num, (show Hid _ from ⟨btr BW.out.1 hb2, BW.out.2.keep hb2⟩), (show Hid _ from by show _ = _; rw [HNX.out, AN.out, HHH.out]; rfl)⟩
        case measure => simp [intOf]; omega
    · have hge : ¬ (k : Int) < (kids.length : Int) := by omega
      have HR : Hid (R = true) := HN.out (by
        have := AN.out
        rw [List.take_of_length_le (by omega)] at this
        exact this)
      go_wp2
      go_ret
      exact ⟨ret_bool HR.out.symm, BW.out.1⟩
/-- Right. -/
theorem rright_any : ∀ (T : VT) (w : World), Qv T w → Calls Tryz.prog 49 #[T.val] w fun e w' => e = .returned (.bool (!hasT wrongT T)) ∧ Below w.heap.size w w' := by
  intro T
  induction T using VT.ind with
  | h o kids ih =>
    intro w hQ
    obtain ⟨bb, off, hK⟩ := hQ.ins.kids'
    have k1 := fun W (hb : Below w.heap.size w W) => rown_any (.mk o kids) W (hQ.keep hb)
    cases ho : ownB o kids.length with
    | false =>
      rw [show ownB (VT.mk o kids).o (VT.mk o kids).kids.length = false from ho] at k1
      have : hasT wrongT (.mk o kids) = true := by rw [hasT_mk, show wrongT (.mk o kids) = !ownB o kids.length from rfl, ho]; rfl
      rw [this]
      exact right_bad _ _ _ _ _ _ _ _ _ _ _ _ _ _ w k1
    | true =>
      rw [show ownB (VT.mk o kids).o (VT.mk o kids).kids.length = true from ho] at k1
      have h0 : wrongT (.mk o kids) = false := by rw [show wrongT (.mk o kids) = !ownB o kids.length from rfl, ho]; rfl
      exact right_core _ _ _ _ _ _ _ _ _ _ _ _ _ kids bb off _ w hK (fun t ht => hQ.kid t ht) (fun t ht h => by rw [hasT_kid wrongT ht h]; rfl) (fun h => by rw [hasT_no wrongT h0 h]; rfl) k1 (fun t ht W hW => ih t ht W hW)
end Go.Proofs.YtjdogiehcgfmjaaGreatDoor
